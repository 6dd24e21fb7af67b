package parse_test

import (
	"go/ast"
	"go/parser"
	"go/token"
	"math/big"
	"math/rand"
	"regexp"
	"slices"
	"strconv"
	"strings"
	"testing"

	"debenture/api"
	"debenture/parse"
	"debenture/term"
	"debenture/word"
)

// num answers the term of a number, written as the library reads it.
func num(s string) api.Term {
	x, is := new(big.Rat).SetString(s)
	if !is {
		panic(s)
	}
	return api.Term{{Op: api.TNum, Num: api.Rat{Num: x.Num().String(), Den: x.Denom().String()}}}
}

// px answers the term of a price.
func px(asset string, day int) api.Term {
	return api.Term{{Op: api.TPx, Asset: asset, A: day}}
}

// days answers the term of an average, of a highest or of a lowest price.
func days(op int, asset string, from, to int) api.Term {
	return api.Term{{Op: op, Asset: asset, A: from, B: to}}
}

// join answers the terms, one behind the other, and a node of that op; written behind the first one.
func join(op int, l ...api.Term) api.Term {
	out := l[0]
	for _, x := range l[1:] {
		out = append(out, x...)
	}
	return append(out, api.Node{Op: op})
}

// outcome is what is answered of a text.
type outcome struct {
	term      api.Term
	err       api.Errno
	line, col int
}

// same tells whether both are the same.
func (o outcome) same(p outcome) bool {
	return slices.Equal(o.term, p.term) && o.err == p.err && o.line == p.line && o.col == p.col
}

// parsed answers what the package answers of s.
func parsed(s string) outcome {
	x, err, line, col := parse.Parse(s)
	return outcome{x, err, line, col}
}

// A spot is a token, and where it begins, by bytes from 0 on.
type spot struct {
	text string
	at   int
}

// The forms of tokens, and of what the grammar says of them.
var (
	piece   = regexp.MustCompile(`[a-z][a-z0-9]*|[0-9]+(\.[0-9]+)?|[-+*/(),]`)
	named   = regexp.MustCompile(`^[a-z]`)
	numeral = regexp.MustCompile(`^[0-9]`)
	natural = regexp.MustCompile(`^(0|[1-9][0-9]{0,59})$`)
	someDay = regexp.MustCompile(`^(0|[1-9][0-9]{0,3})$`)
)

// place answers the line and the column of a byte of s.
func place(s string, at int) (int, int) {
	return 1 + strings.Count(s[:at], "\n"), at - strings.LastIndex(s[:at], "\n")
}

// fault is what is wrong with a text: an error, and at which of the spots.
type fault struct {
	err api.Errno
	i   int
}

// second reads a text a second time, as the document's grammar is written, rule by rule, and panics with a fault.
type second struct {
	spots []spot
	i     int
	open  int
}

// see tells which one of l is next, and goes behind it; -1, if none is.
func (r *second) see(l ...string) int {
	if r.i == len(r.spots) {
		return -1
	}
	out := slices.Index(l, r.spots[r.i].text)
	if out >= 0 {
		r.i++
	}
	return out
}

// want goes behind what is next, which has to be s.
func (r *second) want(s string) {
	if r.see(s) < 0 {
		panic(fault{api.ErrParse, r.i})
	}
}

// form answers what is next, which has to be of that form.
func (r *second) form(of *regexp.Regexp) string {
	if r.i == len(r.spots) || !of.MatchString(r.spots[r.i].text) {
		panic(fault{api.ErrParse, r.i})
	}
	r.i++
	return r.spots[r.i-1].text
}

// has panics with what is behind that is so no more.
func (r *second) has(is bool) {
	if !is {
		panic(fault{api.ErrParse, r.i - 1})
	}
}

// day answers the day that is next, from one to another one.
func (r *second) day(from, to int) int {
	n, err := strconv.Atoi(r.form(someDay))
	r.has(err == nil && n >= from && n <= to)
	return n
}

// deep goes behind the parenthesis that opens one more.
func (r *second) deep() {
	r.want("(")
	if r.open++; r.open > 200 {
		panic(fault{api.ErrDeep, r.i - 1})
	}
}

// sums answers so many sums, parted by commas, up to the parenthesis that closes.
func (r *second) sums(many int) []api.Term {
	r.deep()
	var out []api.Term
	for i := range many {
		if i > 0 {
			r.want(",")
		}
		out = append(out, r.sum())
	}
	r.want(")")
	r.open--
	return out
}

func (r *second) sum() api.Term {
	out := r.product()
	for {
		i := r.see("+", "-")
		if i < 0 {
			return out
		}
		out = join(api.TAdd+i, out, r.product())
	}
}

func (r *second) product() api.Term {
	out := r.sign()
	for {
		i := r.see("*", "/")
		if i < 0 {
			return out
		}
		out = join(api.TMul+i, out, r.sign())
	}
}

func (r *second) sign() api.Term {
	if r.see("-") == 0 {
		return join(api.TNeg, r.sign())
	}
	return r.atom()
}

func (r *second) atom() api.Term {
	if i := r.see("px", "avg", "hi", "lo"); i >= 0 {
		r.want("(")
		n := api.Node{Op: api.TPx + i, Asset: r.form(named)}
		r.want(",")
		n.A = r.day(0, 9999)
		if i > 0 {
			r.want(",")
			n.B = r.day(n.A, n.A+59)
		}
		r.want(")")
		return api.Term{n}
	}
	if r.see("num") == 0 {
		return r.fraction()
	}
	if i := r.see("max", "min", "if"); i >= 0 {
		return join(api.TMax+i, r.sums(2+i/2)...)
	}
	if r.i < len(r.spots) && r.spots[r.i].text == "(" {
		return r.sums(1)[0]
	}
	x := num(r.form(numeral))
	r.has(len(x[0].Num.Num) <= 60 && len(x[0].Num.Den) <= 60)
	return x
}

func (r *second) fraction() api.Term {
	r.want("(")
	sign := ""
	if r.see("-") == 0 {
		sign = "-"
	}
	above := r.form(natural)
	r.want(",")
	below := r.form(natural)
	r.has(below != "0")
	r.want(")")
	return num(sign + above + "/" + below)
}

// all answers the term that is all there is; or, if is is false, the fault.
func (r *second) all() (x api.Term, wrong fault, is bool) {
	defer func() {
		switch f := recover().(type) {
		case nil:
		case fault:
			x, wrong, is = nil, f, false
		default:
			panic(f)
		}
	}()
	x = r.sum()
	if r.i < len(r.spots) {
		panic(fault{api.ErrParse, r.i})
	}
	return x, fault{}, true
}

// said answers what the document's words say of s.
func said(s string) outcome {
	if _, err, line, col := word.Lex(s); err != api.OK {
		return outcome{nil, err, line, col}
	}
	r := second{}
	for _, at := range piece.FindAllStringIndex(s, -1) {
		r.spots = append(r.spots, spot{s[at[0]:at[1]], at[0]})
	}
	x, wrong, is := r.all()
	if !is {
		at := 0
		if wrong.i < len(r.spots) {
			at = r.spots[wrong.i].at
		} else if wrong.i > 0 {
			at = r.spots[wrong.i-1].at + len(r.spots[wrong.i-1].text)
		}
		line, col := place(s, at)
		return outcome{nil, wrong.err, line, col}
	}
	if term.Check(x) != api.OK {
		return outcome{nil, api.ErrTerm, 1, 1}
	}
	return outcome{term: x}
}

// check wants that s is answered as the document's words say, and that what is accepted is printed, and parsed from that print as the same; it answers what is answered.
func check(t *testing.T, s string) outcome {
	t.Helper()
	got := parsed(s)
	if want := said(s); !got.same(want) {
		t.Fatalf("Parse(%.300q): %.200v, %d, %d, %d, not %.200v, %d, %d, %d", s, got.term, got.err, got.line, got.col, want.term, want.err, want.line, want.col)
	}
	if got.err != api.OK {
		return got
	}
	print := term.Print(got.term)
	again := parsed(print)
	if print == "" || !again.same(got) || term.Print(again.term) != print {
		t.Fatalf("Parse(%.300q): %.200v, printed as %.200q, which is parsed as %.200v, %d", s, got.term, print, again.term, again.err)
	}
	return got
}

// means wants that s is that term.
func means(t *testing.T, s string, want api.Term) {
	t.Helper()
	if got := check(t, s); !got.same(outcome{term: want}) {
		t.Errorf("Parse(%.200q): %.200v, %d, %d, %d, not %.200v", s, got.term, got.err, got.line, got.col, want)
	}
}

// reads wants that s is a term, of that print.
func reads(t *testing.T, s, print string) {
	t.Helper()
	if got := check(t, s); got.err != api.OK || got.line != 0 || got.col != 0 || term.Print(got.term) != print {
		t.Errorf("Parse(%.200q): %.200q, %d, %d, %d, not %.200q", s, term.Print(got.term), got.err, got.line, got.col, print)
	}
}

// refuses wants that s is no term, by that error and place.
func refuses(t *testing.T, s string, err api.Errno, line, col int) {
	t.Helper()
	if got := check(t, s); !got.same(outcome{nil, err, line, col}) {
		t.Errorf("Parse(%.200q): %.200v, %d, %d, %d, not %d, %d, %d", s, got.term, got.err, got.line, got.col, err, line, col)
	}
}

// wrong wants that s has a token that is wrong, on its only line, at that column.
func wrong(t *testing.T, s string, col int) {
	t.Helper()
	refuses(t, s, api.ErrParse, 1, col)
}

// P11.1: the document's example, errors and bounds.
func TestExamples(t *testing.T) {
	wrong(t, "px(x, 5) - 2 * -y", 17)
	means(t, "(px(x, 2) - 50)", api.Term{px("x", 2)[0], num("50")[0], {Op: api.TSub}})
	means(t, "((2 * px(x, 2)) - 50)", api.Term{num("2")[0], px("x", 2)[0], {Op: api.TMul}, num("50")[0], {Op: api.TSub}})
	if api.ErrLex != 90 || api.ErrTerm != 100 || api.ErrParse != 110 || api.ErrDeep != 111 || api.OK != 0 {
		t.Error("the document's errors")
	}
}

// P11.1: each form of the grammar.
func TestForms(t *testing.T) {
	one, two, three := num("1"), num("2"), num("3")
	for s, want := range map[string]api.Term{
		"0": num("0"), "7": num("7"), "007": num("7"), "00": num("0"), "1.5": num("3/2"), "1.50": num("3/2"), "0.0": num("0"), "00.50": num("1/2"), "2.0": num("2"), "0.125": num("1/8"),
		"(7)": num("7"), "((7))": num("7"), "(((1.5)))": num("3/2"),
		"px(x, 5)": px("x", 5), "px(ab9,0)": px("ab9", 0), "px ( cash , 9999 )": px("cash", 9999), "px(abcdefghij0123456789, 10)": px("abcdefghij0123456789", 10),
		"avg(x, 1, 60)": days(api.TAvg, "x", 1, 60), "hi(x, 2, 3)": days(api.THi, "x", 2, 3), "lo(y, 7, 7)": days(api.TLo, "y", 7, 7),
		"num(1, 3)": num("1/3"), "num(-1, 3)": num("-1/3"), "num(2, 4)": num("1/2"), "num(-2,4)": num("-1/2"), "num(- 6, 3)": num("-2"), "num(0, 7)": num("0"), "num(-0, 7)": num("0"), "num(7, 1)": num("7"), "num(-7, 1)": num("-7"), "num(10, 5)": num("2"),
		"-7": join(api.TNeg, num("7")), "--7": join(api.TNeg, join(api.TNeg, num("7"))), "- - -7": join(api.TNeg, join(api.TNeg, join(api.TNeg, num("7")))), "-num(-7, 1)": join(api.TNeg, num("-7")), "-0": join(api.TNeg, num("0")), "-px(x, 5)": join(api.TNeg, px("x", 5)), "-(7)": join(api.TNeg, num("7")),
		"1+2": join(api.TAdd, one, two), "1-2": join(api.TSub, one, two), "1*2": join(api.TMul, one, two), "1/2": join(api.TDiv, one, two), "1 - -2": join(api.TSub, one, join(api.TNeg, two)), "1--2": join(api.TSub, one, join(api.TNeg, two)), "1/0": join(api.TDiv, one, num("0")),
		"max(1, 2)": join(api.TMax, one, two), "min(2, 1)": join(api.TMin, two, one), "if(1, 2, 3)": join(api.TIf, one, two, three), "if(3, 2, 1)": join(api.TIf, three, two, one),
		"max(max(1, 2), min(2, 3))": join(api.TMax, join(api.TMax, one, two), join(api.TMin, two, three)), "if(if(1,2,3),max(1,2),(3))": join(api.TIf, join(api.TIf, one, two, three), join(api.TMax, one, two), three),
		"max(1+2, -3)": join(api.TMax, join(api.TAdd, one, two), join(api.TNeg, three)), "min((1), (2))": join(api.TMin, one, two), "if(1*2, 1/2, 1-2)": join(api.TIf, join(api.TMul, one, two), join(api.TDiv, one, two), join(api.TSub, one, two)),
		"max(1, 2) + min(1, 2) * if(1, 2, 3)": join(api.TAdd, join(api.TMax, one, two), join(api.TMul, join(api.TMin, one, two), join(api.TIf, one, two, three))),
		"\n (1\n+ 2 )\n*\n3 \n":               join(api.TMul, join(api.TAdd, one, two), three),
	} {
		means(t, s, slices.Clone(want))
	}
	// join writes behind its first term: none of these may have been written into.
	if len(one) != 1 || one[0] != num("1")[0] || two[0] != num("2")[0] || three[0] != num("3")[0] {
		t.Error("the test's own terms")
	}
}

// P11.1: a name is an asset's, whatever else it is the name of; elsewhere it must be one of the grammar's.
func TestNames(t *testing.T) {
	grammar := []string{"px", "avg", "hi", "lo", "num", "max", "min", "if"}
	others := []string{"x", "y", "cash", "p", "pxx", "px1", "pxavg", "av", "avgs", "h", "high", "l", "low", "nu", "nums", "num1", "ma", "maxi", "mi", "mini", "i", "iff", "if0", "neg", "add", "abs", "e", "x1", "abcdefghij0123456789", strings.Repeat("z", 20)}
	for _, s := range slices.Concat(grammar, others) {
		means(t, "px("+s+", 5)", px(s, 5))
		means(t, "avg("+s+", 5, 6)", days(api.TAvg, s, 5, 6))
		means(t, "hi("+s+", 5, 6)", days(api.THi, s, 5, 6))
		means(t, "lo("+s+", 5, 6)", days(api.TLo, s, 5, 6))
		means(t, "max(px("+s+", 1), -lo("+s+", 5, 6))", api.Term{px(s, 1)[0], days(api.TLo, s, 5, 6)[0], {Op: api.TNeg}, {Op: api.TMax}})
		wrong(t, "px(5, "+s+")", 4)
		wrong(t, "px(x, "+s+")", 7)
		wrong(t, "px(x "+s+")", 6)
		wrong(t, "num("+s+", 2)", 5)
		wrong(t, "num(2, "+s+")", 8)
		wrong(t, "1 "+s, 3)
		wrong(t, "(1 "+s, 4)
	}
	for _, s := range others {
		for _, ahead := range []string{"", "1 + ", "-", "(", "max(", "max(1, ", "if(1, 2, ", "2 * - ", "px(x, 5) / "} {
			wrong(t, ahead+s, len(ahead)+1)
			wrong(t, ahead+s+"(x, 5)", len(ahead)+1)
			wrong(t, ahead+s+"(1, 2)", len(ahead)+1)
			wrong(t, ahead+s+" ) ?"[:2], len(ahead)+1)
		}
	}
	for _, s := range grammar {
		wrong(t, s, len(s)+1)
		wrong(t, s+" ", len(s)+1)
		for _, behind := range []string{")", ",", "+", "-", "1", "x", s} {
			wrong(t, s+" "+behind, len(s)+2)
			wrong(t, "- "+s+"\n\n", len(s)+3)
			refuses(t, "1 *\n "+s+"\n"+behind+"(", api.ErrParse, 3, 1)
		}
	}
}

// expression answers the term of an expression, as the library reads the signs.
func expression(e ast.Expr) api.Term {
	switch e := e.(type) {
	case *ast.ParenExpr:
		return expression(e.X)
	case *ast.UnaryExpr:
		return join(api.TNeg, expression(e.X))
	case *ast.BinaryExpr:
		op := map[token.Token]int{token.ADD: api.TAdd, token.SUB: api.TSub, token.MUL: api.TMul, token.QUO: api.TDiv}[e.Op]
		return join(op, expression(e.X), expression(e.Y))
	}
	return num(e.(*ast.BasicLit).Value)
}

// calculates wants that s, of numbers, signs and parentheses alone, is a term as the library reads it.
func calculates(t *testing.T, s string) {
	t.Helper()
	e, err := parser.ParseExpr(s)
	if err != nil {
		t.Fatalf("%q: %v", s, err)
	}
	means(t, s, expression(e))
}

// P11.1: what is tighter, and what goes from left to right, of each sign beside each.
func TestTightness(t *testing.T) {
	for s, want := range map[string]string{
		"1 + 2 + 3": "((1 + 2) + 3)", "1 + 2 - 3": "((1 + 2) - 3)", "1 - 2 + 3": "((1 - 2) + 3)", "1 - 2 - 3": "((1 - 2) - 3)",
		"1 * 2 * 3": "((1 * 2) * 3)", "1 * 2 / 3": "((1 * 2) / 3)", "1 / 2 * 3": "((1 / 2) * 3)", "1 / 2 / 3": "((1 / 2) / 3)",
		"1 + 2 * 3": "(1 + (2 * 3))", "1 + 2 / 3": "(1 + (2 / 3))", "1 - 2 * 3": "(1 - (2 * 3))", "1 - 2 / 3": "(1 - (2 / 3))",
		"1 * 2 + 3": "((1 * 2) + 3)", "1 * 2 - 3": "((1 * 2) - 3)", "1 / 2 + 3": "((1 / 2) + 3)", "1 / 2 - 3": "((1 / 2) - 3)",
		"-1 + 2": "((-1) + 2)", "-1 - 2": "((-1) - 2)", "-1 * 2": "((-1) * 2)", "-1 / 2": "((-1) / 2)", "1 + -2": "(1 + (-2))", "1 - -2": "(1 - (-2))", "1 * -2": "(1 * (-2))", "1 / -2": "(1 / (-2))",
		"-1 * -2 * -3": "(((-1) * (-2)) * (-3))", "1 * --2 * 3": "((1 * (-(-2))) * 3)", "-(1 + 2) * 3": "((-(1 + 2)) * 3)", "-(1 * 2)": "(-(1 * 2))", "1 - (2 - 3)": "(1 - (2 - 3))", "1 / (2 / 3)": "(1 / (2 / 3))", "(1 + 2) * 3": "((1 + 2) * 3)", "1 * (2 + 3)": "(1 * (2 + 3))",
		"1 + 2 * 3 - 4 / 5": "((1 + (2 * 3)) - (4 / 5))", "1 * 2 + 3 * 4": "((1 * 2) + (3 * 4))", "1 * 2 / 3 * 4": "(((1 * 2) / 3) * 4)", "1 - 2 * 3 * 4 - 5": "((1 - ((2 * 3) * 4)) - 5)",
		"max(1, 2) * 3 + 4": "((max(1, 2) * 3) + 4)", "1 + max(2 + 3, 4 * 5) * 6": "(1 + (max((2 + 3), (4 * 5)) * 6))", "1 - if(1, 2, 3) - 4": "((1 - if(1, 2, 3)) - 4)", "-min(1, 2) / 3": "((-min(1, 2)) / 3)",
		"max(1, 2 - 3 - 4)": "max(1, ((2 - 3) - 4))", "max(1 * 2 + 3, 4)": "max(((1 * 2) + 3), 4)", "if(1 - 2, -3 * 4, 5 / 6 / 7)": "if((1 - 2), ((-3) * 4), ((5 / 6) / 7))",
	} {
		reads(t, s, want)
	}
	// Every sign beside every one, with signs ahead of each operand, and each part of it in parentheses.
	var tell func(s string, more int)
	tell = func(s string, more int) {
		for _, operand := range []string{"2", "- 2", "- - 2"} {
			calculates(t, s+operand)
			if more == 0 {
				continue
			}
			for _, sign := range []string{"+", "-", "*", "/"} {
				tell(s+operand+" "+sign+" ", more-1)
			}
		}
	}
	tell("", 3)
	for _, a := range []string{"+", "-", "*", "/"} {
		for _, b := range []string{"+", "-", "*", "/"} {
			for _, c := range []string{"+", "-", "*", "/"} {
				for _, s := range []string{"1 a 2 b 3 c 4", "(1 a 2) b 3 c 4", "1 a (2 b 3) c 4", "1 a 2 b (3 c 4)", "(1 a 2 b 3) c 4", "1 a (2 b 3 c 4)", "-(1 a 2) b -(3 c 4)", "(1 a (2 b 3)) c 4", "1 a ((2 b 3) c 4)", "-(-1 a -(2 b 3) c 4)"} {
					calculates(t, strings.NewReplacer("a", a, "b", b, "c", c).Replace(s))
				}
			}
		}
	}
}

// sum answers a random expression of numbers, signs and parentheses.
func sum(r *rand.Rand, more int) string {
	out := []string{"", "- ", "- - "}[r.Intn(3)] + strconv.Itoa(r.Intn(20))
	if more > 0 && r.Intn(3) == 0 {
		out = "- "[:2*r.Intn(2)] + "(" + sum(r, more-1) + ")"
	}
	for more > 0 && r.Intn(3) > 0 {
		more--
		out += []string{" + ", " - ", " * ", " / "}[r.Intn(4)] + sum(r, more/2)
	}
	return out
}

// P11.1: random sums and products, against the library's reading of them.
func TestTightnessOfRandomOnes(t *testing.T) {
	random := rand.New(rand.NewSource(11))
	for range 5000 {
		calculates(t, sum(random, 8))
	}
}

// P11.1: a day is a natural of 0 to 9999, without a needless 0, a point or a sign.
func TestDays(t *testing.T) {
	for _, n := range []int{0, 1, 9, 10, 99, 100, 999, 1000, 9998, 9999} {
		day := strconv.Itoa(n)
		means(t, "px(x, "+day+")", px("x", n))
		for op, word := range map[int]string{api.TAvg: "avg", api.THi: "hi", api.TLo: "lo"} {
			means(t, word+"(x, "+day+", "+day+")", days(op, "x", n, n))
		}
	}
	for _, day := range []string{"10000", "10001", "99999", "00", "01", "000", "007", "0000", "09999", "00009", "0.0", "1.0", "5.5", "1.00", "9999.0", "4294967296", "4294967297", "18446744073709551616", "18446744073709551617", "9223372036854775807", strings.Repeat("9", 100), strings.Repeat("0", 100), "1" + strings.Repeat("0", 60)} {
		wrong(t, "px(x, "+day+")", 7)
		wrong(t, "px(x, "+day, 7)
		for _, word := range []string{"avg", "hi", "lo"} {
			at := len(word) + len("(x, ")
			wrong(t, word+"(x, "+day+", 5)", at+1)
			wrong(t, word+"(x, "+day+", "+day+")", at+1)
			wrong(t, word+"(x, 0, "+day+")", at+4)
			wrong(t, word+"(x, 9999, "+day+")", at+7)
		}
	}
	for _, sign := range []string{"-", "+", "--", "*", "/", "(", ")", ","} {
		wrong(t, "px(x, "+sign+"5)", 7)
		wrong(t, "avg(x, "+sign+"5, 6)", 8)
		wrong(t, "hi(x, 5, "+sign+"6)", 10)
		wrong(t, "lo(x, 0, "+sign+"0)", 10)
	}
}

// P11.1: the second one of two days is not below the first one, and at most 59 above it.
func TestSpans(t *testing.T) {
	for op, word := range map[int]string{api.TAvg: "avg", api.THi: "hi", api.TLo: "lo"} {
		for _, a := range []int{0, 1, 7, 59, 60, 100, 9939, 9940, 9941, 9998, 9999} {
			ahead := word + "(x, " + strconv.Itoa(a) + ", "
			for b := max(0, a-62); b < a+65; b++ {
				s := ahead + strconv.Itoa(b) + ")"
				if b >= a && b <= a+59 && b <= 9999 {
					means(t, s, days(op, "x", a, b))
				} else {
					wrong(t, s, len(ahead)+1)
				}
			}
			for _, b := range []string{"10000", "9999999999", "18446744073709551615"} {
				wrong(t, ahead+b+")", len(ahead)+1)
			}
		}
	}
	// The second day of one price does not hang on what another one has.
	reads(t, "avg(x, 100, 159) - lo(x, 1, 2) * hi(x, 9999, 9999) + avg(x, 0, 59)", "((avg(x, 100, 159) - (lo(x, 1, 2) * hi(x, 9999, 9999))) + avg(x, 0, 59))")
	wrong(t, "avg(x, 1, 2) + avg(x, 3, 2)", 26)
}

// P11.1: num's naturals, of 60 digits at most, the second one not 0, the first one with a sign or without.
func TestFractions(t *testing.T) {
	for size := 55; size <= 65; size++ {
		for _, digit := range []string{"1", "9"} {
			s := strings.Repeat(digit, size)
			for _, ahead := range []string{"num(", "num(-", "num(- ", "-num(-", "max(1, num("} {
				if size > 60 {
					wrong(t, ahead+s+", 7)", len(ahead)+1)
					wrong(t, ahead+s+", "+s+")", len(ahead)+1)
					wrong(t, ahead+"7, "+s+")", len(ahead)+4)
					wrong(t, ahead+"0, "+s+")", len(ahead)+4)
				} else if ahead == "num(" {
					means(t, ahead+s+", 7)", num(s+"/7"))
					means(t, ahead+"7, "+s+")", num("7/"+s))
					means(t, ahead+s+", "+s+")", num("1"))
					means(t, ahead+s+", 1"+strings.Repeat("0", size-1)+")", num(s+"/1"+strings.Repeat("0", size-1)))
				} else if ahead == "num(-" {
					means(t, ahead+s+", 7)", num("-"+s+"/7"))
					means(t, ahead+"7, "+s+")", num("-7/"+s))
				}
			}
		}
	}
	// A needless 0 is none of a natural's digits, however few there are.
	for _, s := range []string{"00", "01", "000", "010", "-00", "-01", "0.0", "1.0", "1.5", "-1.5", "0.5", "7.0", strings.Repeat("0", 60), strings.Repeat("0", 61), "0" + strings.Repeat("1", 59), "0" + strings.Repeat("1", 60)} {
		digits := strings.TrimPrefix(s, "-")
		wrong(t, "num("+s+", 2)", 5+len(s)-len(digits))
		wrong(t, "num(-"+digits+", 2)", 6)
		wrong(t, "num(2, "+digits+")", 8)
		wrong(t, "num(0, "+digits+")", 8)
	}
	means(t, "num(5, 1)", num("5"))
	means(t, "num(0, 1)", num("0"))
	means(t, "num(-0, 1)", num("0"))
	means(t, "num(-0, 10)", num("0"))
	means(t, "num(1, 10)", num("1/10"))
	means(t, "num(-1, 10)", num("-1/10"))
	for _, ahead := range []string{"num(1, ", "num(0, ", "num(-1, ", "num(-0, ", "2 - num(1, "} {
		wrong(t, ahead+"0)", len(ahead)+1)
		wrong(t, ahead+"0", len(ahead)+1)
		wrong(t, ahead+"-1)", len(ahead)+1)
		wrong(t, ahead+"--1)", len(ahead)+1)
		wrong(t, ahead+"-0)", len(ahead)+1)
		wrong(t, ahead+")", len(ahead)+1)
		wrong(t, ahead+"(1))", len(ahead)+1)
	}
	wrong(t, "num(--1, 2)", 6)
	wrong(t, "num(---1, 2)", 6)
	wrong(t, "num(- -1, 2)", 7)
	wrong(t, "num(+1, 2)", 5)
	wrong(t, "num((1), 2)", 5)
	wrong(t, "num(-(1), 2)", 6)
	wrong(t, "num(-px(x, 1), 2)", 6)
	wrong(t, "num(1 + 1, 2)", 7)
	wrong(t, "num(1)", 6)
	wrong(t, "num(-1)", 7)
	wrong(t, "num(1, 2, 3)", 9)
	wrong(t, "num(1, 2 * 3)", 10)
	wrong(t, "num()", 5)
	wrong(t, "num(, 2)", 5)
	wrong(t, "num(-, 2)", 6)
	wrong(t, "num 1", 5)
}

// P11.1: the parts of a number, as a Rat, have at most 60 digits, be its text of as many or of more.
func TestLongNumbers(t *testing.T) {
	ones, nines := strings.Repeat("1", 60), strings.Repeat("9", 60)
	zeros := strings.Repeat("0", 100)
	for _, ahead := range []string{"", "-", "(", "2 * ", "max(1, ", "if("} {
		at := len(ahead) + 1
		for _, s := range []string{
			ones + "1", nines + "9", "1" + zeros[:60], ones + ".1", nines + ".5", nines[:59] + ".99", "1." + ones, "0." + ones, "0." + zeros[:59] + "1", "0." + zeros[:59] + "3", "0." + zeros[:80] + "1", zeros[:39] + ones + "1", "0" + ones + "1", ones + "1.0", ones + "1." + zeros[:38], strings.Repeat("9", 100), "9." + strings.Repeat("9", 98), strings.Repeat("9", 50) + "." + strings.Repeat("9", 49),
		} {
			wrong(t, ahead+s, at)
			wrong(t, ahead+s+")", at)
		}
	}
	for s, want := range map[string]string{
		ones: ones, nines: nines, "1" + zeros[:59]: "1" + zeros[:59], zeros[:40] + ones: ones, ones + "." + zeros[:39]: ones, zeros: "0", "0." + zeros[:98]: "0", "1." + zeros[:98]: "1", zeros[:99] + "7": "7",
		"0." + zeros[:58] + "1": "num(1, 1" + zeros[:59] + ")", "0." + nines[:59]: "num(" + nines[:59] + ", 1" + zeros[:59] + ")", nines[:40] + "." + nines[:20]: nines[:40] + "." + nines[:20],
		// In lowest terms it has fewer digits than as it is written.
		"0." + zeros[:59] + "5": "num(1, 2" + zeros[:59] + ")", "0." + zeros[:59] + "2": "num(1, 5" + zeros[:59] + ")", "0." + zeros[:59] + "8": "num(1, 125" + zeros[:57] + ")", "4." + zeros[:59] + "5": "",
		nines[:59] + ".5": "", nines + ".0": nines, nines[:59] + ".2": nines[:59] + ".2", "0." + zeros[:20] + "1": "num(1, 1" + zeros[:21] + ")", "0." + zeros[:19] + "1": "0." + zeros[:19] + "1",
	} {
		x := num(s)
		if len(x[0].Num.Num) > 60 || len(x[0].Num.Den) > 60 {
			wrong(t, s, 1)
			continue
		}
		means(t, s, x)
		if want != "" {
			reads(t, s, want)
		}
	}
	// Each count of digits, ahead of the point and behind it.
	for ahead := 1; ahead < 64; ahead++ {
		for behind := 1; behind < 64 && ahead+behind < 100; behind++ {
			for _, s := range []string{nines + nines, ones + ones} {
				s = s[:ahead] + "." + s[:behind]
				if ahead+behind <= 60 && behind < 60 {
					means(t, s, num(s))
				} else {
					wrong(t, s, 1)
				}
			}
		}
	}
}

// The places of the grammar: what stands ahead, and what may follow.
const (
	operand = "0|1|4|5|00|01|007|1.0|0.5|5.0|9999|10000|64|65|S60|Z100|F59|px|avg|hi|lo|num|max|min|if|(|-"
	asset   = "px|avg|hi|lo|num|max|min|if|x|y9|pxx|maxi|nu|cash|N20"
	aDay    = "0|1|4|5|64|65|9999"
	anyNat  = "0|1|4|5|64|65|9999|10000|S60"
	signs   = "+|-|*|/"
)

// palette are tokens of each kind, by what stands for them above.
func palette() map[string]string {
	out := map[string]string{}
	for _, s := range strings.Split(operand+"|"+asset+"|+|*|/|)|,", "|") {
		out[s] = s
	}
	out["S60"], out["S61"], out["Z100"] = strings.Repeat("3", 60), strings.Repeat("3", 61), strings.Repeat("0", 99)+"5"
	out["F59"], out["F60"], out["P61"] = "0."+strings.Repeat("7", 59), "0."+strings.Repeat("7", 60), strings.Repeat("7", 59)+".77"
	out["N20"] = strings.Repeat("q", 20)
	return out
}

// follows wants that behind what stands ahead, and over lines, such tokens may follow, as the list says, and no others; that the text may end there if ends is true.
func follows(t *testing.T, ahead, list string, ends bool) {
	t.Helper()
	may := strings.Split(list, "|")
	if got := check(t, ahead); (got.err == api.OK) != ends || !ends && !got.same(end(ahead)) {
		t.Errorf("%q: %d, %d, %d, though it ends there: %v", ahead, got.err, got.line, got.col, ends)
	}
	if got := check(t, ahead+" \n "); !got.same(parsed(ahead)) {
		t.Errorf("%q, with blanks behind: %d, %d, %d", ahead, got.err, got.line, got.col)
	}
	for name, s := range palette() {
		for gap, behind := range map[string]string{" ": "", "\n \n  ": "\n" + s + " )"} {
			if !slices.Contains(may, name) {
				line, col := place(ahead+gap, len(ahead+gap))
				refuses(t, ahead+gap+s+behind, api.ErrParse, line, col)
			} else if got := check(t, ahead+gap+s); got.err != api.OK && !got.same(end(ahead+gap+s)) {
				t.Errorf("%q may follow %q: %d, %d, %d", s, ahead, got.err, got.line, got.col)
			}
		}
	}
}

// end answers the outcome of a text that is wrong in that it ends.
func end(s string) outcome {
	line, col := place(s, len(strings.TrimRight(s, " \n")))
	return outcome{nil, api.ErrParse, line, col}
}

// P11.1: at each place of the grammar each kind of token, and the end.
func TestWrongTokens(t *testing.T) {
	for _, ahead := range []string{"", "-", "- -", "(", "((", "-(", "1 +", "1 -", "1 *", "1 /", "1 * -", "max(", "max(1,", "min(", "min(-1,", "if(", "if(1,", "if(1, 2,", "if((1), (2),", "max(max(1, 2),", "if(max(1, 2), 3,", "max(1 +", "max(1, 2 *", "if(1, 2, 3 -", "(1 + (2 *", "px(x, 5) *", "max(if(", "(max(1, 2) /"} {
		follows(t, ahead, operand, false)
	}
	for _, ahead := range []string{"7", "1.5", "(7)", "((7))", "-7", "--7", "1 + 2", "1 * 2", "1 - -2 / 3", "px(x, 5)", "avg(x, 5, 6)", "hi(x, 5, 5)", "lo(x, 0, 59)", "num(1, 2)", "num(-1, 2)", "max(1, 2)", "min(1, 2)", "if(1, 2, 3)", "-(1)", "(1) + (2)", "max((1), (2)) * 3"} {
		follows(t, ahead, signs, true)
		for _, around := range []string{"(", "-(", "((2) + ", "max(1, ", "min(1, -", "if(1, 2, ", "(max(1, 2) - ", "if(max(1, 2), if(1, 2, 3), "} {
			follows(t, around+ahead, signs+"|)", false)
		}
		for _, around := range []string{"max(", "min(", "if(", "if(1, ", "max(-", "if((1), 2 * ", "(max(", "max(max(1, 2) + ", "if(if(1, 2, 3), ", "max(1, max("} {
			follows(t, around+ahead, signs+"|,", false)
		}
	}
	for _, around := range []string{"", "-", "(", "1 + ", "max(", "max(1, ", "if(1, ", "if(1, 2, ", "max(px(x, 5), "} {
		for _, name := range []string{"px", "avg", "hi", "lo", "num", "max", "min", "if"} {
			follows(t, around+name, "(", false)
		}
		for _, name := range []string{"px(", "avg(", "hi(", "lo("} {
			follows(t, around+name, asset, false)
			for _, s := range strings.Split("x|px|if|cash", "|") {
				follows(t, around+name+s, ",", false)
				follows(t, around+name+s+",", aDay, false)
			}
		}
		for _, day := range []string{"0", "5", "9999"} {
			follows(t, around+"px(x, "+day, ")", false)
			for _, name := range []string{"avg(", "hi(", "lo("} {
				follows(t, around+name+"x, "+day, ",", false)
				follows(t, around+name+"x, "+day+", "+day, ")", false)
			}
		}
		for _, name := range []string{"avg(", "hi(", "lo("} {
			follows(t, around+name+"x, 0,", "0|1|4|5", false)
			follows(t, around+name+"x, 1,", "1|4|5", false)
			follows(t, around+name+"x, 5,", "5|64", false)
			follows(t, around+name+"x, 6,", "64|65", false)
			follows(t, around+name+"x, 65,", "65", false)
			follows(t, around+name+"x, 66,", "", false)
			follows(t, around+name+"x, 9940,", "9999", false)
			follows(t, around+name+"x, 9999,", "9999", false)
		}
		follows(t, around+"num(", anyNat+"|-", false)
		follows(t, around+"num(-", anyNat, false)
		for _, s := range []string{"num(0", "num(7", "num(-0", "num(-7"} {
			follows(t, around+s, ",", false)
			follows(t, around+s+",", strings.TrimPrefix(anyNat, "0|"), false)
			follows(t, around+s+", 1", ")", false)
		}
	}
}

// P11.1: a text of no tokens, one that ends too early, and what stands behind a term.
func TestEnds(t *testing.T) {
	for _, s := range []string{"", " ", "\n", "   ", "\n\n\n", " \n \n", "\n  ", strings.Repeat(" \n", 10000), strings.Repeat(" ", 20000)} {
		refuses(t, s, api.ErrParse, 1, 1)
	}
	for _, s := range []string{"", " ", "\n", "\n\n ", "    "} {
		refuses(t, "1 +"+s, api.ErrParse, 1, 4)
		refuses(t, "1\n+"+s, api.ErrParse, 2, 2)
		refuses(t, "\n\n  max"+s, api.ErrParse, 3, 6)
		refuses(t, "(1.25"+s, api.ErrParse, 1, 6)
		refuses(t, " (\n 1.25"+s, api.ErrParse, 2, 6)
		refuses(t, "px(abc"+s, api.ErrParse, 1, 7)
		refuses(t, "px(abc, 1234"+s, api.ErrParse, 1, 13)
		refuses(t, "px(abc,\n1234"+s, api.ErrParse, 2, 5)
		refuses(t, "-"+s, api.ErrParse, 1, 2)
		refuses(t, "\n-"+s, api.ErrParse, 2, 2)
		refuses(t, "max(1, 2"+s, api.ErrParse, 1, 9)
		refuses(t, "max(1,"+s, api.ErrParse, 1, 7)
		refuses(t, "if(1, 2"+s, api.ErrParse, 1, 8)
		refuses(t, "(((1))"+s, api.ErrParse, 1, 7)
		refuses(t, "7 "+s+"7", api.ErrParse, 1+strings.Count(s, "\n"), len("7 "+s)-strings.LastIndex("7 "+s, "\n"))
	}
	for _, s := range []string{"7", "(7)", "px(x, 5)", "lo(x, 5, 6)", "num(-1, 3)", "max(1, 2)", "if(1, 2, 3)", "-7", "1 + 2"} {
		for _, behind := range []string{")", ",", "(", "7", "x", "px", "px(x, 5)", "(7)", ")(", ", 7", "max(1, 2)", "1.5", "num(1, 2)"} {
			wrong(t, s+" "+behind, len(s)+2)
			refuses(t, "\n "+s+"\n "+behind, api.ErrParse, 3, 2)
			wrong(t, "("+s+")"+behind, len(s)+3)
		}
	}
	// Every beginning of a long text, cut ahead of a token, ends too early, but for those that are terms.
	long := "max(-1 * px(x, 5), if(avg(y, 6, 7), num(-1, 3), (hi(z, 8, 9) / lo(z, 9, 9)) - 2)) + 7.5\n- min(3, -(4))"
	terms := 0
	for _, at := range piece.FindAllStringIndex(long, -1) {
		s := long[:at[0]]
		got := check(t, s)
		if got.err == api.OK {
			terms++
		} else if s != "" && !got.same(end(s)) {
			t.Errorf("%q: %d, %d, %d", s, got.err, got.line, got.col)
		}
	}
	if terms != 2 {
		t.Errorf("%d beginnings that are terms", terms)
	}
	reads(t, long, "((max(((-1) * px(x, 5)), if(avg(y, 6, 7), num(-1, 3), ((hi(z, 8, 9) / lo(z, 9, 9)) - 2))) + 7.5) - min(3, (-4)))")
}

// P11.1: too few and too many terms, in what is open and in what is alone.
func TestCounts(t *testing.T) {
	wrong(t, "max(1)", 6)
	wrong(t, "min(1)", 6)
	wrong(t, "max()", 5)
	wrong(t, "max(1,)", 7)
	wrong(t, "max(,1)", 5)
	wrong(t, "max(1,,2)", 7)
	wrong(t, "max(1, 2, 3)", 9)
	wrong(t, "min(1, 2,)", 9)
	wrong(t, "if(1)", 5)
	wrong(t, "if()", 4)
	wrong(t, "if(1, 2)", 8)
	wrong(t, "if(1, 2, 3, 4)", 11)
	wrong(t, "if(1, 2, 3,)", 11)
	wrong(t, "if(max(1, 2), 3)", 16)
	wrong(t, "if(max(1, 2, 3), 3)", 12)
	wrong(t, "max(if(1, 2, 3))", 16)
	wrong(t, "max((1, 2))", 7)
	wrong(t, "(1, 2)", 3)
	wrong(t, "()", 2)
	wrong(t, "((), 1)", 3)
	wrong(t, "max((1), 2), 3", 12)
	wrong(t, "1, 2", 2)
	wrong(t, "max(1 2)", 7)
	wrong(t, "px()", 4)
	wrong(t, "px(x)", 5)
	wrong(t, "px(x,)", 6)
	wrong(t, "px(x, 5, 6)", 8)
	wrong(t, "avg(x, 5)", 9)
	wrong(t, "avg(x, 5, 6, 7)", 12)
	wrong(t, "hi(x)", 5)
	wrong(t, "lo(x, 5,)", 9)
	wrong(t, "px(px(x, 5), 6)", 6)
	wrong(t, "px((x), 5)", 4)
	wrong(t, "px(x, (5))", 7)
	wrong(t, "px(x, 5 + 1)", 9)
	wrong(t, "(1))", 4)
	wrong(t, ")", 1)
	wrong(t, ",", 1)
	wrong(t, "+1", 1)
	wrong(t, "1 + + 2", 5)
	wrong(t, "1 * / 2", 5)
	wrong(t, "1 - * 2", 5)
	wrong(t, "- + 1", 3)
	wrong(t, "-", 2)
	wrong(t, "1 -", 4)
	wrong(t, "2(3)", 2)
	wrong(t, "(2)(3)", 4)
	wrong(t, "2 px(x, 5)", 3)
}

// P11.1: what word.Lex refuses comes first, with its place, whatever is wrong ahead of it.
func TestLexComesFirst(t *testing.T) {
	for _, ahead := range []string{"", "1 ", "1 + ", ") ", "1 2 3 ", "x y z ", "px(1, x) ", "\n\n )\n  ", "max(1)\n", strings.Repeat("(", 300), strings.Repeat("- ", 200), "num(1, 0)\n ", "1 + 1 "} {
		line, col := place(ahead, len(ahead))
		for _, bad := range []string{"?", ".", "A", "\t", "\r", "\x00", "\xff", "!", "%", "[", strings.Repeat("a", 21), strings.Repeat("1", 101), "\u00e4"} {
			refuses(t, ahead+bad, api.ErrLex, line, col)
			refuses(t, ahead+bad+" )", api.ErrLex, line, col)
			refuses(t, ahead+bad+"\n?", api.ErrLex, line, col)
		}
		refuses(t, ahead+"1.", api.ErrLex, line, col+1)
		refuses(t, ahead+"1.x", api.ErrLex, line, col+1)
		refuses(t, ahead+"1.5.", api.ErrLex, line, col+3)
	}
	for c := range 256 {
		s := string([]byte{byte(c)})
		check(t, s)
		check(t, "1"+s)
		check(t, "1 + "+s)
		check(t, "px(x, "+s)
		check(t, s+s)
	}
	// A text of more than 20000 bytes is not read, however short its print would be.
	blanks := strings.Repeat(" ", 19999)
	means(t, blanks+"7", num("7"))
	means(t, "7"+blanks, num("7"))
	refuses(t, blanks+" 7", api.ErrLex, 1, 1)
	refuses(t, "7 "+blanks, api.ErrLex, 1, 1)
	refuses(t, blanks+")", api.ErrParse, 1, 20000)
	refuses(t, blanks+" )", api.ErrLex, 1, 1)
	refuses(t, strings.Repeat("(", 20001), api.ErrLex, 1, 1)
	refuses(t, strings.Repeat("(", 20000), api.ErrDeep, 1, 201)
	refuses(t, strings.Repeat("\n", 19999)+")", api.ErrParse, 20000, 1)
	refuses(t, strings.Repeat("\n", 20000)+")", api.ErrLex, 1, 1)
}

// The ways to open one more, each with what comes ahead of the next one, and what ends it.
var openings = []struct{ ahead, behind string }{
	{"(", ")"}, {"-(", ")"}, {"(1 + ", ")"}, {"max(", ", 1)"}, {"max(1, ", ")"}, {"min(", ", 1)"}, {"min(1, ", ")"}, {"if(", ", 1, 2)"}, {"if(1, ", ", 2)"}, {"if(1, 2, ", ")"}, {"2 * (", ")"}, {"max(\n", "\n, 1)"}, {"max(num(1, 2), ", ")"}, {"if (px(x, 5), ", ", 7)"},
}

// opened answers the texts ahead and behind of so many that are open, as which tells, one by one, of the openings.
func opened(many int, which func(i int) int) (string, string) {
	ahead, behind := "", ""
	for i := range many {
		with := openings[which(i)]
		ahead, behind = ahead+with.ahead, with.behind+behind
	}
	return ahead, behind
}

// P11.1: 200 may be open, and not 201: of parentheses, max, min and if, each alone, and mixed.
func TestDeep(t *testing.T) {
	random := rand.New(rand.NewSource(111))
	ways := []func(i int) int{func(i int) int { return i % len(openings) }, func(i int) int { return len(openings) - 1 - i%len(openings) }, func(i int) int { return i % 2 * 3 }, func(i int) int { return i * i % len(openings) }}
	for k := range openings {
		ways = append(ways, func(int) int { return k })
	}
	for range 6 {
		ways = append(ways, func(int) int { return random.Intn(len(openings)) })
	}
	for _, which := range ways {
		ahead, behind := opened(200, which)
		got := check(t, ahead+"7"+behind)
		if got.err != api.OK && !got.same(outcome{nil, api.ErrTerm, 1, 1}) {
			t.Errorf("%.60q, 200 open: %d, %d, %d", ahead, got.err, got.line, got.col)
		}
		for _, more := range []string{"(", "max(", "min (", "if\n(", "- (", "2 + max("} {
			line, col := place(ahead+more, len(ahead+more)-1)
			refuses(t, ahead+more, api.ErrDeep, line, col)
			refuses(t, ahead+more+")", api.ErrDeep, line, col)
			refuses(t, ahead+more+"1, 2", api.ErrDeep, line, col)
			refuses(t, ahead+more+more, api.ErrDeep, line, col)
			refuses(t, ahead+more+"7)"+behind, api.ErrDeep, line, col)
			refuses(t, ahead+more+"7)"+behind+"?", api.ErrLex, line+strings.Count("7)"+behind, "\n"), lastColumn(ahead+more+"7)"+behind)+1)
			// What is wrong ahead of it comes first.
			refuses(t, "1 1"+ahead+more, api.ErrParse, 1, 3)
			line, col = place(ahead, len(ahead))
			refuses(t, ahead+") "+more, api.ErrParse, line, col)
			refuses(t, ahead+"x "+more, api.ErrParse, line, col)
			refuses(t, ahead+"7 7 "+more, api.ErrParse, line, col+2)
		}
		// Prices and num open nothing that counts.
		for _, s := range []string{"px(x, 5)", "avg(x, 5, 6)", "num(-1, 3)", "-lo(x, 5, 6) + hi(x, 5, 6) * px(x, 1)"} {
			if got := check(t, ahead+s+behind); got.err == api.ErrDeep || got.err == api.ErrParse {
				t.Errorf("%.60q, 200 open, and a price: %d, %d, %d", ahead, got.err, got.line, got.col)
			}
		}
		// A name alone opens nothing yet.
		line, col := place(ahead+"max", len(ahead)+3)
		refuses(t, ahead+"max", api.ErrParse, line, col)
		refuses(t, ahead+"max)", api.ErrParse, line, col)
		refuses(t, ahead+"max 1", api.ErrParse, line, col+1)
		refuses(t, ahead+"px", api.ErrParse, line, col-1)
	}
}

// lastColumn answers the column of the last byte of s.
func lastColumn(s string) int {
	_, col := place(s, len(s))
	return col - 1
}

// P11.1: what is closed is open no more.
func TestDeepAgain(t *testing.T) {
	deep := strings.Repeat("(", 200) + "7" + strings.Repeat(")", 200)
	means(t, deep, num("7"))
	refuses(t, "("+deep+")", api.ErrDeep, 1, 201)
	reads(t, deep+"+"+deep, "(7 + 7)")
	reads(t, "-"+deep+"*-"+deep+"/"+deep, "(((-7) * (-7)) / 7)")
	inner := deep[1 : len(deep)-1]
	reads(t, "max("+inner+","+inner+")", "max(7, 7)")
	reads(t, "if("+inner+","+inner+","+inner+")", "if(7, 7, 7)")
	reads(t, "("+inner+"+"+inner+")", "(7 + 7)")
	refuses(t, "max("+inner+","+deep+")", api.ErrDeep, 1, 4+len(inner)+1+200)
	refuses(t, "if("+inner+","+inner+","+deep+")", api.ErrDeep, 1, 3+2*len(inner)+2+200)
	refuses(t, deep+"+("+deep+")", api.ErrDeep, 1, len(deep)+1+201)
	reads(t, strings.Repeat("(7) + ", 300)[:6*149]+"7", term.Print(said(strings.Repeat("7 + ", 149)+"7").term))
	refuses(t, strings.Repeat("(7) + ", 300)+"(7", api.ErrParse, 1, 6*300+3)
	refuses(t, strings.Repeat("max(1, 2) * ", 300)+"7", api.ErrTerm, 1, 1)
}

// balanced answers the text of a sum of leaves, of few levels.
func balanced(l []string) string {
	if len(l) == 1 {
		return l[0]
	}
	return "(" + balanced(l[:len(l)/2]) + " + " + balanced(l[len(l)/2:]) + ")"
}

// sized answers a text of so many bytes, which is printed as it stands, from 100 bytes on.
func sized(bytes int) string {
	var leaves []string
	// Beside its name, a leaf has 7 bytes, and comes with 5 that join it, but for the first one.
	left := bytes + 5
	for ; left > 64; left -= 32 {
		leaves = append(leaves, "px("+strings.Repeat("q", 20)+", 1)")
	}
	for _, size := range []int{left / 2, left - left/2} {
		leaves = append(leaves, "px("+strings.Repeat("q", size-12)+", 1)")
	}
	return balanced(leaves)
}

// P11.1: a term that may not be is refused at 1 and 1: one that is too deep, one of too many nodes, one of which the print is too long.
func TestTermsThatMayNotBe(t *testing.T) {
	for _, c := range []struct{ ahead, behind string }{{"-", ""}, {"1 + (", ")"}, {"2 * (", ")"}, {"max(1, ", ")"}, {"min(", ", 2)"}, {"if(1, 2, ", ")"}, {"if(", ", 1, 2)"}, {"if(1, ", ", 2)"}, {"(", " - 1)"}} {
		ahead, behind := strings.Repeat(c.ahead, 149), strings.Repeat(c.behind, 149)
		if got := check(t, ahead+"7"+behind); got.err != api.OK || term.Depth(got.term) != 150 {
			t.Errorf("%q, 150 deep: %d", c.ahead, got.err)
		}
		refuses(t, ahead+c.ahead+"7"+c.behind+behind, api.ErrTerm, 1, 1)
		refuses(t, "\n\n "+ahead+c.ahead+"7"+c.behind+behind, api.ErrTerm, 1, 1)
		refuses(t, ahead+"-7"+behind, api.ErrTerm, 1, 1)
		refuses(t, ahead+"(7)"+behind+" - 1", api.ErrTerm, 1, 1)
		refuses(t, ahead+c.ahead+"7"+c.behind+behind+" )", api.ErrParse, 1, len(ahead+c.ahead+"7"+c.behind+behind)+2)
		reads(t, ahead+"((7))"+behind, term.Print(said(ahead+"7"+behind).term))
	}
	for many := 147; many < 153; many++ {
		s := strings.Repeat("7 - ", many-1) + "7"
		if got := check(t, s); (got.err == api.OK) != (many <= 150) {
			t.Errorf("a sum of %d: %d", many, got.err)
		}
	}
	wide := balanced(slices.Repeat([]string{"7"}, 1000))
	for many, s := range map[int]string{1999: wide, 2000: "-" + wide} {
		if got := check(t, s); got.err != api.OK || len(got.term) != many {
			t.Errorf("%d nodes: %d", many, got.err)
		}
	}
	refuses(t, "--"+wide, api.ErrTerm, 1, 1)
	refuses(t, wide+" + 7", api.ErrTerm, 1, 1)
	refuses(t, "-("+wide+" * 1)", api.ErrTerm, 1, 1)
	refuses(t, strings.Repeat("-", 19999)+"7", api.ErrTerm, 1, 1)
	refuses(t, strings.Repeat("7*", 9999)+"7", api.ErrTerm, 1, 1)
	refuses(t, strings.Repeat("-", 20000), api.ErrParse, 1, 20001)
	refuses(t, strings.Repeat("7+", 10000), api.ErrParse, 1, 20001)
}

// P11.1 and P11.2: a print of 20000 bytes, and of 20001, from texts that are shorter, as long, and longer.
func TestSizes(t *testing.T) {
	for _, size := range []int{100, 1000, 19990, 19999, 20000} {
		s := sized(size)
		reads(t, s, s)
		if len(s) != size {
			t.Errorf("%d bytes, not %d", len(s), size)
		}
		packed := strings.ReplaceAll(s, " ", "")
		reads(t, packed, s)
		reads(t, strings.Repeat(" ", 20000-len(packed))+packed, s)
		refuses(t, strings.Repeat(" ", 20001-len(packed))+packed, api.ErrLex, 1, 1)
	}
	for _, size := range []int{20001, 20002, 20100} {
		s := sized(size)
		refuses(t, s, api.ErrLex, 1, 1)
		packed := strings.ReplaceAll(s, " ", "")
		refuses(t, packed, api.ErrTerm, 1, 1)
		refuses(t, "\n "+packed, api.ErrTerm, 1, 1)
		refuses(t, packed+"+", api.ErrParse, 1, len(packed)+2)
	}
	// A sign ahead makes three bytes of one.
	reads(t, "-"+sized(19997), "(-"+sized(19997)+")")
	refuses(t, "-"+sized(19998), api.ErrTerm, 1, 1)
	// A text may be much longer than its print.
	reads(t, strings.Repeat("\n", 19990)+"num(2, 4)", "0.5")
	reads(t, strings.Repeat("(", 200)+strings.Repeat(" ", 10000)+"1.50"+strings.Repeat(")", 200), "1.5")
	reads(t, "1."+strings.Repeat("0", 98)+" - "+strings.Repeat("0", 100), "(1 - 0)")
}

// P11.1: all short rows of tokens.
func TestShortRows(t *testing.T) {
	some := map[api.Errno]int{}
	tell := func(tokens []string, most int) {
		var row func(s string, more int)
		row = func(s string, more int) {
			some[check(t, s).err]++
			if more == 0 {
				return
			}
			for _, x := range tokens {
				row(s+" "+x, more-1)
			}
		}
		row("", most)
	}
	tell([]string{"7", "-", "*", "(", ")", ",", "max"}, 6)
	tell([]string{"px", "x", "(", ")", ",", "5", "0.5", "avg"}, 5)
	tell([]string{"1", "+", "-", "*", "/", "(", ")"}, 6)
	for _, ahead := range []string{"if(1,", "max(max(", "avg(x,5", "num(", "num(-1", "(1-(2", "lo", "if(1,2,3"} {
		for a := range palette() {
			for b := range palette() {
				some[check(t, ahead+" "+palette()[a]+" "+palette()[b]).err]++
			}
		}
	}
	if some[api.OK] < 200 || some[api.ErrParse] < 100000 {
		t.Errorf("%v", some)
	}
}

// leaf answers a random node of arity 0 that may be.
func leaf(r *rand.Rand) api.Term {
	asset := []string{"x", "y", "xy", "px", "x1", "max", "num", "abcdefghij0123456789"}[r.Intn(8)]
	a := []int{0, 1, 2, 12, 9940, 9999}[r.Intn(6)]
	switch op := r.Intn(7); op {
	case api.TPx:
		return px(asset, a)
	case api.TAvg, api.THi, api.TLo:
		return days(op, asset, a, min(9999, a+r.Intn(60)))
	}
	dens := []string{"1", "1", "2", "4", "3", "10", "7", "100000000000000000000", "1000000000000000000000", strings.Repeat("7", 60)}
	return num(strconv.Itoa(r.Intn(30)-8) + "/" + dens[r.Intn(len(dens))])
}

// grown answers a random term that may be, of at most so many levels.
func grown(r *rand.Rand, levels int) api.Term {
	if levels == 1 || r.Intn(6) == 0 {
		return leaf(r)
	}
	op := api.TNeg + r.Intn(api.TOps-api.TNeg)
	var l []api.Term
	for range term.Arity(op) {
		l = append(l, grown(r, levels-1))
	}
	return join(op, l...)
}

// P11.2 and P5: a term that may be is parsed from its print, as it was.
func TestPrintedIsParsed(t *testing.T) {
	back := func(x api.Term) {
		t.Helper()
		print := term.Print(x)
		if term.Check(x) != api.OK || print == "" {
			t.Fatalf("the test's own %.200v may not be", x)
		}
		means(t, print, x)
		reads(t, print, print)
	}
	for _, op := range []int{api.TAvg, api.THi, api.TLo} {
		for a := range 10000 {
			x := days(op, "x", a, min(9999, a+a%60))
			if got := parsed(term.Print(x)); !got.same(outcome{term: x}) {
				t.Fatalf("%v: %v", x, got)
			}
		}
	}
	for den := 1; den < 60; den++ {
		for n := -40; n < 60; n++ {
			back(num(strconv.Itoa(n) + "/" + strconv.Itoa(den)))
		}
	}
	zeros, nines := strings.Repeat("0", 60), strings.Repeat("9", 60)
	for places := range 60 {
		for _, s := range []string{"1", "3", "-1", nines, "-" + nines} {
			back(num(s + "/1" + zeros[:places]))
			back(num(s + "/" + nines[:places] + "1"))
		}
	}
	random := rand.New(rand.NewSource(112))
	for range 2500 {
		back(grown(random, 1+random.Intn(6)))
	}
	for op := api.TNeg; op < api.TOps; op++ {
		for side := range term.Arity(op) {
			x := px("x", 5)
			for range 149 {
				l := slices.Repeat([]api.Term{num("1")}, term.Arity(op))
				l[side] = x
				x = join(op, l...)
			}
			back(x)
		}
	}
}

// spread answers the tokens, with gaps of any kind between them, over lines too.
func spread(r *rand.Rand, l []string) string {
	out := []string{"", "", " ", "\n", " \n  "}[r.Intn(5)]
	last := ""
	for _, s := range l {
		if out != "" && !strings.ContainsAny(last, "+-*/(), \n") && !strings.ContainsAny(s[:1], "+-*/(),") {
			out += " "
		}
		last = s + []string{"", "", "", " ", "  ", "\n", "\n\n ", " \n"}[r.Intn(8)]
		out += last
	}
	return out
}

// spoilt answers the tokens with one, or some, of them left out, doubled, changed, or swapped.
func spoilt(r *rand.Rand, l []string) []string {
	l = slices.Clone(l)
	i := r.Intn(len(l))
	others := []string{"x", "px", "avg", "num", "max", "if", "7", "01", "1.5", "10000", "0", "+", "-", "*", "/", "(", ")", ","}
	switch r.Intn(6) {
	case 0:
		return slices.Delete(l, i, i+1)
	case 1:
		return slices.Insert(l, i, l[i])
	case 2:
		l[i] = others[r.Intn(len(others))]
	case 3:
		return slices.Insert(l, i, others[r.Intn(len(others))])
	case 4:
		j := r.Intn(len(l))
		l[i], l[j] = l[j], l[i]
	case 5:
		return l[:i]
	}
	return l
}

// P11.1 and P11.2: random terms, spread over lines, with needless parentheses left out or added, and spoilt.
func TestRandomTexts(t *testing.T) {
	random := rand.New(rand.NewSource(113))
	many := map[api.Errno]int{}
	for range 8000 {
		x := grown(random, 1+random.Intn(5))
		l := piece.FindAllString(term.Print(x), -1)
		means(t, spread(random, l), x)
		if random.Intn(2) == 0 {
			// With fewer parentheses it may be another one, or none.
			i := slices.Index(l, "(")
			if i >= 0 && (i == 0 || !named.MatchString(l[i-1])) {
				l = slices.Delete(l, i, i+1)
			}
		}
		for range random.Intn(3) {
			if len(l) > 0 {
				l = spoilt(random, l)
			}
		}
		many[check(t, spread(random, l)).err]++
	}
	if many[api.OK] < 1000 || many[api.ErrParse] < 1000 {
		t.Errorf("%v", many)
	}
}

// goesOn wants that s, which ends too early, can be gone on with up to a term: that no token of it is wrong.
func goesOn(t *testing.T, s string) {
	t.Helper()
	numbers := regexp.MustCompile(`[0-9]+`).FindAllString(s, -1)
	slices.Reverse(numbers)
	candidates := slices.Concat([]string{")", ",", "7"}, numbers, []string{"1", "x", "("})
	start := s
	for parsed(s).err == api.ErrParse {
		next := ""
		for _, c := range candidates {
			more := s + " " + c
			if got := parsed(more); got.err != api.ErrParse || got.same(end(more)) {
				next = more
				break
			}
		}
		if next == "" || len(next) > 20000 {
			t.Fatalf("%.200q cannot be gone on with", s)
		}
		s = next
	}
	if err := parsed(s).err; err != api.OK && err != api.ErrTerm {
		t.Fatalf("%.200q, gone on with: %d", start, err)
	}
}

// P11.1: of the tokens ahead of one that is wrong none is; with it, nothing is allowed.
func TestWrongOneIsTheFirst(t *testing.T) {
	random := rand.New(rand.NewSource(114))
	tokens := slices.Sorted(func(yield func(string) bool) {
		for _, s := range palette() {
			if !yield(s) {
				return
			}
		}
	})
	seen := 0
	for range 3000 {
		l := piece.FindAllString(term.Print(grown(random, 1+random.Intn(4))), -1)
		s := strings.Join(spoilt(random, l), " ")
		got := check(t, s)
		if got.err != api.ErrParse || s == "" {
			continue
		}
		seen++
		ahead := strings.TrimRight(s[:got.col-1], " ")
		if got := parsed(ahead); got.err != api.OK && got.err != api.ErrTerm && ahead != "" && !got.same(end(ahead)) {
			t.Fatalf("%q is wrong at %d, and %q at %d", s, got.col, ahead, got.col)
		}
		goesOn(t, ahead)
		if len(ahead) == len(s) {
			continue
		}
		// Whatever comes behind the wrong one, it stays the one.
		for range 5 {
			rest := strings.Repeat(" "+tokens[random.Intn(len(tokens))], 1+random.Intn(3))
			behind, _, _ := strings.Cut(s[got.col-1:], " ")
			if again := parsed(s[:got.col-1] + behind + rest); !again.same(got) {
				t.Fatalf("%q: %v, but with %q: %v", s, got, rest, again)
			}
		}
	}
	if seen < 1000 {
		t.Errorf("only %d texts are wrong", seen)
	}
}

// P5 and P11.1: any bytes have an answer, or an error and a place.
func TestRandomBytes(t *testing.T) {
	random := rand.New(rand.NewSource(115))
	pieces := []string{"px(x, 5)", "px(", "avg(x, ", "num(-1, ", "max(", "if(", "(", ")", ")", ",", "7", "0.5", "01", "-", "+", "*", "/", " ", "\n", "x", "5", ".", "A"}
	for range 20000 {
		var b strings.Builder
		for range random.Intn(15) {
			b.WriteString(pieces[random.Intn(len(pieces)-random.Intn(2)*2)])
		}
		got := check(t, b.String())
		if got.err != api.OK && (len(got.term) != 0 || got.line < 1 || got.col < 1) {
			t.Fatalf("%q: %v", b.String(), got)
		}
	}
	for range 5000 {
		s := make([]byte, random.Intn(20))
		for i := range s {
			s[i] = byte(random.Intn(256))
		}
		check(t, string(s))
	}
}

// R3 and R4: nothing is kept from call to call, and an answer that is written into later changes no other one.
func TestNothingIsShared(t *testing.T) {
	s := "max(px(x, 5) - 1.5, num(-1, 3)) * if(avg(y, 1, 2), 2, -3)"
	want := check(t, s)
	for range 3 {
		got := parsed(s)
		if !got.same(want) {
			t.Fatalf("%v, not %v", got, want)
		}
		for i := range got.term {
			got.term[i] = api.Node{Op: -1, Asset: "?"}
		}
		got.term = append(got.term, api.Node{Op: -2})
		wrong(t, "((max(1, ", 9)
		refuses(t, strings.Repeat("(", 201), api.ErrDeep, 1, 201)
		refuses(t, "1 ?", api.ErrLex, 1, 3)
		refuses(t, "", api.ErrParse, 1, 1)
	}
}

// R1 and P1: every call ends, and none panics, at long texts too.
func TestLongTexts(t *testing.T) {
	for _, part := range []string{" ", "\n", "a", "1", "1+", "-", "(", ")", "max(1,", "if(", "px(x, 5)+", "num(", "?", "\x00", "1 ", "(1)*", "1*-"} {
		long := strings.Repeat(part, 20000)
		check(t, long[:20000])
		check(t, long[:20000-1]+")")
		check(t, long[:19999])
		refuses(t, strings.Repeat(part, 1<<22/len(part)), api.ErrLex, 1, 1)
	}
}
