package term_test

import (
	"fmt"
	"math"
	"math/big"
	"math/rand"
	"slices"
	"strconv"
	"strings"
	"testing"

	"debenture/api"
	"debenture/term"
)

// num answers the term of a number, written as the library reads it.
func num(s string) api.Term {
	x, is := new(big.Rat).SetString(s)
	if !is {
		panic(s)
	}
	return over(x.Num().String(), x.Denom().String())
}

// over answers the term of a fraction, be it one that may be or not.
func over(num, den string) api.Term {
	return api.Term{{Num: api.Rat{Num: num, Den: den}}}
}

// px answers the term of a price.
func px(asset string, day int) api.Term {
	return api.Term{{Op: api.TPx, Asset: asset, A: day}}
}

// days answers the term of an average, of a highest or of a lowest price.
func days(op int, asset string, from, to int) api.Term {
	return api.Term{{Op: op, Asset: asset, A: from, B: to}}
}

// join answers the terms, one behind the other, and a node of that op: without the package's own call.
func join(op int, l ...api.Term) api.Term {
	var out api.Term
	for _, x := range l {
		out = append(out, x...)
	}
	return append(out, api.Node{Op: op})
}

// arity is how many terms an op takes, by the document; none of others.
func arity(op int) (int, bool) {
	switch op {
	case 0, 1, 2, 3, 4:
		return 0, true
	case 5:
		return 1, true
	case 6, 7, 8, 9, 10, 11:
		return 2, true
	case 12:
		return 3, true
	}
	return 0, false
}

// begin answers, read from behind, where the term begins whose last node stands there; -1, if there is none.
func begin(t api.Term, last int) int {
	if last < 0 {
		return -1
	}
	many, is := arity(t[last].Op)
	if !is {
		return -1
	}
	for range many {
		if last = begin(t, last-1); last < 0 {
			return -1
		}
	}
	return last
}

// formed tells whether t is formed, read from behind.
func formed(t api.Term) bool {
	return len(t) >= 1 && len(t) <= 2000 && begin(t, len(t)-1) == 0
}

// parts answers the terms that the last node of a formed term takes, read from behind.
func parts(t api.Term) []api.Term {
	var out []api.Term
	for end := len(t) - 1; end > 0; {
		from := begin(t, end-1)
		out = append([]api.Term{t[from:end]}, out...)
		end = from
	}
	return out
}

// levels answers the depth of a formed term.
func levels(t api.Term) int {
	most := 0
	for _, x := range parts(t) {
		most = max(most, levels(x))
	}
	return most + 1
}

// digits tells whether s is a natural of at most 60 digits.
func digits(s string) bool {
	n, is := new(big.Int).SetString(s, 10)
	return is && n.String() == s && len(s) <= 60 && n.Sign() >= 0
}

// named tells whether s is a name that begins with a letter.
func named(s string) bool {
	if s == "" || len(s) > 20 || strings.Contains("0123456789", s[:1]) {
		return false
	}
	return strings.Trim(s, "abcdefghijklmnopqrstuvwxyz0123456789") == ""
}

// may tells whether a node may be, field by field.
func may(n api.Node) bool {
	none := api.Rat{}
	switch n.Op {
	case 0:
		if !digits(strings.TrimPrefix(n.Num.Num, "-")) || !digits(n.Num.Den) || n.Num.Den == "0" || n.Num.Num == "-0" {
			return false
		}
		return num(n.Num.Num + "/" + n.Num.Den)[0] == n
	case 1:
		return n.Num == none && named(n.Asset) && n.A >= 0 && n.A <= 9999 && n.B == 0
	case 2, 3, 4:
		return n.Num == none && named(n.Asset) && n.A >= 0 && n.A <= 9999 && n.B >= n.A && n.B <= n.A+59 && n.B <= 9999
	}
	return n.Num == none && n.Asset == "" && n.A == 0 && n.B == 0
}

// figure answers the text of a number that may be, by the library's numbers.
func figure(x api.Rat) string {
	n, _ := new(big.Rat).SetString(x.Num + "/" + x.Den)
	power := big.NewInt(1)
	for places := range 21 {
		if n.Sign() >= 0 && new(big.Int).Mod(power, n.Denom()).Sign() == 0 {
			return n.FloatString(places)
		}
		power.Mul(power, big.NewInt(10))
	}
	return "num(" + x.Num + ", " + x.Den + ")"
}

// printed answers the print of a formed term whose nodes may be, read from behind.
func printed(t api.Term) string {
	n := t[len(t)-1]
	var l []string
	for _, x := range parts(t) {
		l = append(l, printed(x))
	}
	switch n.Op {
	case 0:
		return figure(n.Num)
	case 1:
		return fmt.Sprintf("px(%s, %d)", n.Asset, n.A)
	case 2, 3, 4:
		return fmt.Sprintf("%s(%s, %d, %d)", []string{"avg", "hi", "lo"}[n.Op-2], n.Asset, n.A, n.B)
	case 5:
		return "(-" + l[0] + ")"
	case 6, 7, 8, 9:
		return "(" + l[0] + " " + []string{"+", "-", "*", "/"}[n.Op-6] + " " + l[1] + ")"
	case 10, 11:
		return []string{"max", "min"}[n.Op-10] + "(" + l[0] + ", " + l[1] + ")"
	}
	return "if(" + l[0] + ", " + l[1] + ", " + l[2] + ")"
}

// answers are all that is told of a term.
type answers struct {
	depth int
	args  []api.Term
	print string
	err   api.Errno
}

// said answers what the document's words say of t.
func said(t api.Term) answers {
	out := answers{err: api.ErrTerm}
	if !formed(t) {
		return out
	}
	out.depth, out.args = levels(t), parts(t)
	for _, n := range t {
		if !may(n) {
			return out
		}
	}
	out.print = printed(t)
	if out.depth <= 150 && len(out.print) <= 20000 {
		out.err = api.OK
	}
	return out
}

// same tells whether both are the same lists of terms.
func same(k, l []api.Term) bool {
	return slices.EqualFunc(k, l, slices.Equal[api.Term])
}

// told answers what the package tells of t, which it has to leave as it was.
func told(t *testing.T, x api.Term) answers {
	t.Helper()
	was := slices.Clone(x)
	out := answers{term.Depth(x), term.Args(x), term.Print(x), term.Check(x)}
	if !slices.Equal(x, was) {
		t.Fatalf("%.200v has become %.200v", was, x)
	}
	return out
}

// check wants that the package tells of x what the document's words say, and answers it.
func check(t *testing.T, x api.Term) answers {
	t.Helper()
	got, want := told(t, x), said(x)
	if got.depth != want.depth || !same(got.args, want.args) || got.print != want.print || got.err != want.err {
		t.Fatalf("of %.300v: depth %d, %.200v, %.200q, %d, not %d, %.200v, %.200q, %d", x, got.depth, got.args, got.print, got.err, want.depth, want.args, want.print, want.err)
	}
	return got
}

// prints wants that x may be, and its print.
func prints(t *testing.T, x api.Term, want string) {
	t.Helper()
	if got := check(t, x); got.print != want || got.err != api.OK {
		t.Errorf("%.200v: %q, %d, not %q", x, got.print, got.err, want)
	}
}

// shapeless wants that nothing is told of x, which is not formed.
func shapeless(t *testing.T, x api.Term) {
	t.Helper()
	if got := check(t, x); got.depth != 0 || len(got.args) != 0 || got.print != "" || got.err != api.ErrTerm {
		t.Errorf("%.200v is not formed: %v", x, got)
	}
}

// wrong wants of x, which is formed, that a node may not be: so deep, with so many terms that its last node takes.
func wrong(t *testing.T, x api.Term, depth, args int) {
	t.Helper()
	if got := check(t, x); got.depth != depth || len(got.args) != args || got.print != "" || got.err != api.ErrTerm {
		t.Errorf("%.200v has a node that may not be: %v", x, got)
	}
}

// everywhere wants that a leaf that may not be is refused at each place in a term.
func everywhere(t *testing.T, bad api.Term) {
	t.Helper()
	good := px("x", 5)
	wrong(t, bad, 1, 0)
	wrong(t, join(api.TNeg, bad), 2, 1)
	wrong(t, join(api.TAdd, bad, good), 2, 2)
	wrong(t, join(api.TMax, good, bad), 2, 2)
	wrong(t, join(api.TIf, good, bad, good), 2, 3)
	wrong(t, join(api.TSub, join(api.TIf, good, good, bad), good), 3, 2)
}

// fitting answers a term whose last node is of that op, and may be.
func fitting(op int) api.Term {
	switch op {
	case api.TNum:
		return num("1/3")
	case api.TPx:
		return px("x", 5)
	case api.TAvg, api.THi, api.TLo:
		return days(op, "y", 3, 9)
	}
	many, _ := arity(op)
	return join(op, []api.Term{px("a", 1), num("2"), days(api.TLo, "c", 3, 3)}[:many]...)
}

// sized answers a term that may be but for its size, of which the print has so many bytes, from 40 on.
func sized(bytes int) api.Term {
	var leaves []api.Term
	// Beside its name, a leaf has 7 bytes, and comes with 5 that join it, but for the first one.
	left := bytes + 5
	for ; left > 64; left -= 32 {
		leaves = append(leaves, px(strings.Repeat("q", 20), 1))
	}
	for _, size := range []int{left / 2, left - left/2} {
		leaves = append(leaves, px(strings.Repeat("q", size-12), 1))
	}
	return balanced(leaves)
}

// balanced answers the sum of the terms, of few levels.
func balanced(l []api.Term) api.Term {
	if len(l) == 1 {
		return l[0]
	}
	return join(api.TAdd, balanced(l[:len(l)/2]), balanced(l[len(l)/2:]))
}

// chain answers x with so many signs ahead of it.
func chain(x api.Term, many int) api.Term {
	return append(slices.Clone(x), slices.Repeat(api.Term{{Op: api.TNeg}}, many)...)
}

// P10.1: the document's numbers, and what each op takes.
func TestArity(t *testing.T) {
	want := map[int]int{api.TNum: 0, api.TPx: 0, api.TAvg: 0, api.THi: 0, api.TLo: 0, api.TNeg: 1, api.TAdd: 2, api.TSub: 2, api.TMul: 2, api.TDiv: 2, api.TMax: 2, api.TMin: 2, api.TIf: 3}
	for op := -300; op < 300; op++ {
		k, is := want[op]
		if !is {
			k = -1
		}
		if got := term.Arity(op); got != k {
			t.Errorf("Arity(%d): %d, not %d", op, got, k)
		}
	}
	for _, op := range []int{math.MinInt, math.MinInt + 1, math.MaxInt, math.MaxInt32, math.MinInt32, 1 << 32, 1<<32 + 5, 256, 261} {
		if got := term.Arity(op); got != -1 {
			t.Errorf("Arity(%d): %d", op, got)
		}
	}
	if api.TNum != 0 || api.TPx != 1 || api.TAvg != 2 || api.THi != 3 || api.TLo != 4 || api.TNeg != 5 || api.TAdd != 6 || api.TSub != 7 || api.TMul != 8 || api.TDiv != 9 || api.TMax != 10 || api.TMin != 11 || api.TIf != 12 || api.TOps != 13 {
		t.Error("the document's ops")
	}
	if api.MaxNodes != 2000 || api.MaxDay != 9999 || api.MaxSpan != 60 || api.ErrTerm != 100 {
		t.Error("the document's bounds")
	}
}

// P10.2 and P10.3: the document's examples, and a term of each op.
func TestPrint(t *testing.T) {
	x, half, y := px("x", 5), num("3/2"), days(api.TAvg, "y", 1, 60)
	prints(t, join(api.TSub, x, half), "(px(x, 5) - 1.5)")
	prints(t, join(api.TMul, num("2"), px("x", 2)), "(2 * px(x, 2))")
	prints(t, join(api.TSub, join(api.TMul, num("2"), px("x", 2)), num("50")), "((2 * px(x, 2)) - 50)")
	prints(t, join(api.TMax, join(api.TSub, px("x", 9), num("50")), num("0")), "max((px(x, 9) - 50), 0)")
	prints(t, half, "1.5")
	prints(t, x, "px(x, 5)")
	prints(t, y, "avg(y, 1, 60)")
	prints(t, days(api.THi, "ab9", 0, 9), "hi(ab9, 0, 9)")
	prints(t, days(api.TLo, "cash", 9999, 9999), "lo(cash, 9999, 9999)")
	prints(t, join(api.TNeg, x), "(-px(x, 5))")
	prints(t, join(api.TNeg, join(api.TNeg, half)), "(-(-1.5))")
	prints(t, join(api.TNeg, num("-7")), "(-num(-7, 1))")
	prints(t, join(api.TAdd, x, half), "(px(x, 5) + 1.5)")
	prints(t, join(api.TAdd, half, x), "(1.5 + px(x, 5))")
	prints(t, join(api.TMul, x, y), "(px(x, 5) * avg(y, 1, 60))")
	prints(t, join(api.TDiv, y, num("-1/3")), "(avg(y, 1, 60) / num(-1, 3))")
	prints(t, join(api.TMax, x, half), "max(px(x, 5), 1.5)")
	prints(t, join(api.TMin, half, x), "min(1.5, px(x, 5))")
	prints(t, join(api.TIf, x, half, y), "if(px(x, 5), 1.5, avg(y, 1, 60))")
	prints(t, join(api.TIf, join(api.TIf, x, half, y), join(api.TMin, x, y), join(api.TNeg, x)), "if(if(px(x, 5), 1.5, avg(y, 1, 60)), min(px(x, 5), avg(y, 1, 60)), (-px(x, 5)))")
	prints(t, join(api.TSub, join(api.TSub, x, x), join(api.TSub, x, x)), "((px(x, 5) - px(x, 5)) - (px(x, 5) - px(x, 5)))")
	// A name is an asset's, whatever else it is the name of.
	prints(t, px("px", 0), "px(px, 0)")
	prints(t, days(api.TAvg, "if", 7, 8), "avg(if, 7, 8)")
}

// small answers the print of 1 over so many tens.
func small(places int) string {
	zeros := strings.Repeat("0", places)
	switch {
	case places == 0:
		return "1"
	case places <= 20:
		return "0." + zeros[1:] + "1"
	}
	return "num(1, 1" + zeros + ")"
}

// P10.2: a number is written with its places, if there are 20 at most and no sign.
func TestPrintNumbers(t *testing.T) {
	nines := strings.Repeat("9", 60)
	for s, want := range map[string]string{
		"0": "0", "1": "1", "7": "7", "10": "10", "1000": "1000", "1/2": "0.5", "1/4": "0.25", "5/2": "2.5", "1/10": "0.1", "101/100": "1.01", "1/1000": "0.001", "12345/8": "1543.125",
		"-1": "num(-1, 1)", "-7": "num(-7, 1)", "-1/2": "num(-1, 2)", "-1/3": "num(-1, 3)", "1/3": "num(1, 3)", "4/3": "num(4, 3)", "1/6": "num(1, 6)", "22/7": "num(22, 7)", "1/15": "num(1, 15)",
		"1e-19": "0.0000000000000000001", "1e-20": "0.00000000000000000001", "1e-21": "num(1, 1" + strings.Repeat("0", 21) + ")", "-1e-20": "num(-1, 1" + strings.Repeat("0", 20) + ")",
		"1/1048576": "0.00000095367431640625", "1/2097152": "num(1, 2097152)", "1/95367431640625": "0.00000000000001048576", "1/476837158203125": "num(1, 476837158203125)",
		nines: nines, "-" + nines: "num(-" + nines + ", 1)", "1e59": "1" + strings.Repeat("0", 59),
		nines + "/100000000000000000000":            nines[:40] + "." + nines[:20],
		nines + "/1000000000000000000000":           "num(" + nines + ", 1000000000000000000000)",
		"1/" + nines:                                "num(1, " + nines + ")",
		"-1/" + nines:                               "num(-1, " + nines + ")",
		"1" + strings.Repeat("0", 59) + "/" + nines: "num(1" + strings.Repeat("0", 59) + ", " + nines + ")",
	} {
		prints(t, num(s), want)
		prints(t, join(api.TNeg, num(s)), "(-"+want+")")
	}
	for places := range 60 {
		one := "1e-" + strconv.Itoa(places)
		prints(t, num(one), small(places))
		for _, by := range []string{"2", "5", "3", "-7", "99/8", "1/3", "2/7"} {
			x, _ := new(big.Rat).SetString(by)
			d, _ := new(big.Rat).SetString(one)
			check(t, num(x.Mul(x, d).RatString()))
		}
	}
	for den := int64(1); den < 300; den++ {
		for n := int64(-20); n < 50; n++ {
			check(t, num(big.NewRat(n, den).String()))
		}
	}
}

// P10.2 and P10.3: 60 digits of Num, and of Den, a sign beside them not counted; not 61.
func TestLongNumbers(t *testing.T) {
	for _, c := range []string{"1", "9"} {
		for size := 55; size <= 65; size++ {
			s := strings.Repeat(c, size)
			for _, x := range []api.Term{over(s, "1"), over("-"+s, "1"), num("1/" + s), num("-1/" + s), num(s + "/" + s[1:] + "0"), num("-" + s + "/1" + s[1:])} {
				got := check(t, x)
				most := max(len(strings.TrimPrefix(x[0].Num.Num, "-")), len(x[0].Num.Den))
				if (got.err == api.OK) != (most <= 60) || (got.print != "") != (most <= 60) || got.depth != 1 {
					t.Errorf("%v: %v", x, got)
				}
			}
		}
	}
	ones := strings.Repeat("1", 61)
	everywhere(t, over(ones, "1"))
	everywhere(t, over("-"+ones, "1"))
	everywhere(t, over("1", ones))
	everywhere(t, over("-1", ones))
	everywhere(t, over(ones, "10"+ones[2:]))
	prints(t, over(ones[1:], "1"), ones[1:])
	prints(t, over("-"+ones[1:], "1"), "num(-"+ones[1:]+", 1)")
	prints(t, over("2", ones[1:]), "num(2, "+ones[1:]+")")
}

// P10.3: a Num that may not be.
func TestWrongNumbers(t *testing.T) {
	for _, x := range []api.Rat{
		{}, {Num: "1"}, {Den: "1"}, {Num: "0"}, {Num: "0", Den: "0"}, {Num: "1", Den: "0"}, {Num: "-1", Den: "0"}, {Num: "0", Den: "2"}, {Num: "-0", Den: "1"}, {Num: "1", Den: "-1"}, {Num: "-1", Den: "-2"},
		{Num: "2", Den: "2"}, {Num: "-2", Den: "2"}, {Num: "2", Den: "4"}, {Num: "6", Den: "9"}, {Num: "-6", Den: "9"}, {Num: "01", Den: "1"}, {Num: "1", Den: "01"}, {Num: "00", Den: "1"}, {Num: "-01", Den: "1"},
		{Num: "+1", Den: "1"}, {Num: "1", Den: "+1"}, {Num: "--1", Den: "1"}, {Num: "1.5", Den: "1"}, {Num: "1", Den: "1.0"}, {Num: "a", Den: "1"}, {Num: "1", Den: "a"}, {Num: " 1", Den: "1"}, {Num: "1 ", Den: "1"}, {Num: "1", Den: "1\n"}, {Num: "-", Den: "1"},
		{Num: "1/2", Den: "1"}, {Num: "\x00", Den: "1"}, {Num: "\u0661", Den: "1"}, {Num: "1e3", Den: "1"}, {Num: "0x1", Den: "1"}, {Num: "1_0", Den: "1"}, {Num: strings.Repeat("2", 60), Den: strings.Repeat("2", 60)}, {Num: strings.Repeat("0", 60) + "1", Den: "1"},
	} {
		everywhere(t, api.Term{{Num: x}})
	}
}

// P10.3: days from 0 to 9999, the later one at most 59 above the earlier one.
func TestDays(t *testing.T) {
	edges := []int{math.MinInt, math.MinInt + 1, -10000, -60, -59, -2, -1, 0, 1, 2, 58, 59, 60, 61, 5000, 5058, 5059, 5060, 9938, 9939, 9940, 9941, 9998, 9999, 10000, 10001, 10058, 10059, 1 << 32, math.MaxInt - 59, math.MaxInt - 1, math.MaxInt}
	for _, a := range edges {
		price := px("x", a)
		if a >= 0 && a <= 9999 {
			prints(t, price, "px(x, "+strconv.Itoa(a)+")")
		} else {
			everywhere(t, price)
		}
		for _, op := range []int{api.TAvg, api.THi, api.TLo} {
			for _, b := range edges {
				check(t, days(op, "x", a, b))
			}
			for b := a - 65; b < a+65 && b > a-66; b++ {
				check(t, days(op, "x", a, b))
			}
		}
	}
	for op, word := range map[int]string{api.TAvg: "avg", api.THi: "hi", api.TLo: "lo"} {
		for _, a := range []int{0, 1, 500, 9939, 9940, 9998, 9999} {
			for b := a; b <= min(a+59, 9999); b++ {
				prints(t, days(op, "x", a, b), word+"(x, "+strconv.Itoa(a)+", "+strconv.Itoa(b)+")")
			}
			everywhere(t, days(op, "x", a, a-1))
			everywhere(t, days(op, "x", a, a+60))
			everywhere(t, days(op, "x", a, 10000))
			everywhere(t, days(op, "x", a, math.MaxInt))
			everywhere(t, days(op, "x", a, math.MinInt))
		}
		everywhere(t, days(op, "x", -1, 0))
		everywhere(t, days(op, "x", -1, -1))
		everywhere(t, days(op, "x", 10000, 10000))
		everywhere(t, days(op, "x", 10000, 9999))
		everywhere(t, days(op, "x", math.MinInt, math.MaxInt))
		everywhere(t, days(op, "x", math.MaxInt, math.MinInt))
		everywhere(t, days(op, "x", math.MaxInt, math.MaxInt))
		everywhere(t, days(op, "x", math.MinInt, math.MinInt))
	}
}

// P10.3: an asset is a name that begins with a letter.
func TestAssets(t *testing.T) {
	long := "abcdefghij0123456789"
	for _, op := range []int{api.TPx, api.TAvg, api.THi, api.TLo} {
		for size := 1; size <= 20; size++ {
			if got := check(t, days(op, long[:size], 0, 0)); got.err != api.OK {
				t.Errorf("%q is a name", long[:size])
			}
		}
		for c := range 256 {
			one := string([]byte{byte(c)})
			letter, digit := c >= 'a' && c <= 'z', c >= '0' && c <= '9'
			for s, is := range map[string]bool{one: letter, one + "x": letter, one + "9": letter, one + one: letter, "x" + one: letter || digit, "xy" + one + "z": letter || digit} {
				if got := check(t, days(op, s, 0, 0)); (got.err == api.OK) != is || (got.print != "") != is {
					t.Errorf("%q: %v", s, got)
				}
			}
		}
		for _, s := range []string{"", "!", "!x", "!issuer", "!round", "1x", "0", "9a", "x!", "X", "aB", " x", "x ", "x y", "x\n", "x\x00", "\x00", "x,", "x)", "\u00e4", "x\u0661", long + "a", long + "0", strings.Repeat("a", 21), strings.Repeat("a", 5000), "!" + strings.Repeat("a", 19)} {
			everywhere(t, days(op, s, 0, 0))
		}
	}
}

// P10.3: of each op, a field that is not named is zero.
func TestFieldsNotNamed(t *testing.T) {
	for op := range api.TOps {
		good := fitting(op)
		if got := check(t, good); got.err != api.OK {
			t.Fatalf("%v: %v", good, got)
		}
		last := len(good) - 1
		priced, spans := op >= api.TPx && op <= api.TLo, op >= api.TAvg && op <= api.TLo
		var bad []api.Node
		for _, x := range []api.Rat{{Num: "0", Den: "1"}, {Num: "1", Den: "1"}, {Num: "0"}, {Den: "1"}, {Num: "-1", Den: "3"}, {Num: " "}, {Den: "\x00"}, {Num: "2", Den: "2"}} {
			if n := good[last]; op != api.TNum {
				n.Num = x
				bad = append(bad, n)
			}
		}
		for _, s := range []string{"x", "!x", " ", "\x00", "cash", strings.Repeat("a", 30)} {
			if n := good[last]; !priced {
				n.Asset = s
				bad = append(bad, n)
			}
		}
		for _, day := range []int{1, -1, 5, 9999, 10000, math.MaxInt, math.MinInt} {
			if n := good[last]; !priced {
				n.A = day
				bad = append(bad, n)
			}
			if n := good[last]; !spans {
				n.B = day
				bad = append(bad, n)
			}
		}
		depth, args := len(good)-last, last
		if last > 0 {
			depth = 2
		}
		for _, n := range bad {
			x := append(slices.Clone(good[:last]), n)
			wrong(t, x, depth, args)
			wrong(t, join(api.TNeg, x), depth+1, 1)
			wrong(t, join(api.TIf, num("1"), x, num("1")), depth+1, 3)
			wrong(t, join(api.TDiv, x, fitting(op)), depth+1, 2)
		}
	}
}

// P10.1 and P10.3: a node finds as many terms ahead of it as it takes, and one is left at the end.
func TestNotFormed(t *testing.T) {
	x, y := px("x", 5), num("1")
	shapeless(t, nil)
	shapeless(t, api.Term{})
	for op := api.TNeg; op < api.TOps; op++ {
		many := term.Arity(op)
		for ahead := range many {
			shapeless(t, join(op, slices.Repeat([]api.Term{x}, ahead)...))
			shapeless(t, join(op, slices.Repeat([]api.Term{join(api.TNeg, x)}, ahead)...))
			shapeless(t, join(api.TNeg, join(op, slices.Repeat([]api.Term{x}, ahead)...)))
			shapeless(t, append(join(op, slices.Repeat([]api.Term{x}, ahead)...), x...))
			shapeless(t, append(join(op, slices.Repeat([]api.Term{x}, ahead)...), join(api.TMax, x, y)...))
		}
		for more := 1; more < 4; more++ {
			shapeless(t, join(op, slices.Repeat([]api.Term{y}, many+more)...))
			shapeless(t, append(fitting(op), slices.Repeat(x, more)...))
		}
		shapeless(t, append(fitting(op), fitting(op)...))
		shapeless(t, append(fitting(op), api.Node{Op: api.TAdd}))
		shapeless(t, append(api.Term{{Op: op}}, fitting(op)...))
	}
	shapeless(t, slices.Concat(x, y))
	shapeless(t, slices.Concat(x, x, y))
	shapeless(t, slices.Concat(x, x, y, y))
	shapeless(t, slices.Repeat(x, 2000))
	shapeless(t, api.Term{x[0], {Op: api.TNeg}, {Op: api.TAdd}, y[0]})
	shapeless(t, api.Term{x[0], {Op: api.TAdd}, y[0], y[0]})
	shapeless(t, api.Term{{Op: api.TNeg}, x[0]})
	shapeless(t, append(chain(x, 1998), x...))
	// What is no op makes no term, whatever stands ahead of it.
	for _, op := range []int{-1, -2, -3, api.TOps, api.TOps + 1, 100, math.MinInt, math.MaxInt, 1 << 32} {
		for many := range 5 {
			shapeless(t, join(op, slices.Repeat([]api.Term{x}, many)...))
			shapeless(t, append(join(op, slices.Repeat([]api.Term{x}, many)...), x...))
			shapeless(t, join(api.TNeg, join(op, slices.Repeat([]api.Term{x}, many)...)))
		}
		shapeless(t, api.Term{{Op: op, Num: y[0].Num}})
		shapeless(t, api.Term{{Op: op, Asset: "x", A: 5}})
		shapeless(t, api.Term{{Op: op, Asset: "x", A: 5, B: 6}})
	}
}

// P10.1 to P10.3: all rows of a few nodes, of ops of each arity and of none.
func TestShortTerms(t *testing.T) {
	nodes := api.Term{num("1/3")[0], px("x", 5)[0], {Op: api.TPx}, {Op: api.TNeg}, {Op: api.TSub}, {Op: api.TIf}, {Op: api.TOps}}
	many := map[bool]int{}
	var tell func(x api.Term, more int)
	tell = func(x api.Term, more int) {
		many[check(t, x).depth > 0]++
		if more == 0 {
			return
		}
		for _, n := range nodes {
			tell(append(slices.Clone(x), n), more-1)
		}
	}
	tell(nil, 5)
	if many[true] < 100 || many[false] < 10000 {
		t.Errorf("%v", many)
	}
	var all api.Term
	for op := -1; op <= api.TOps; op++ {
		all = append(all, api.Node{Op: op})
	}
	all[1].Num, all[2].Asset, all[3].Asset, all[4].Asset, all[5].Asset = num("2")[0].Num, "x", "x", "x", "x"
	nodes = all
	tell(nil, 4)
}

// P10.3: of 1 to 2000 nodes.
func TestNodes(t *testing.T) {
	leaves := slices.Repeat([]api.Term{num("7")}, 1000)
	wide := balanced(leaves)
	for many, x := range map[int]api.Term{1: num("7"), 2: chain(num("7"), 1), 1999: wide, 2000: chain(wide, 1)} {
		if got := check(t, x); len(x) != many || got.err != api.OK || got.depth == 0 || got.print == "" {
			t.Errorf("%d nodes: %d", many, got.err)
		}
	}
	shapeless(t, chain(wide, 2))
	shapeless(t, chain(wide, 3))
	shapeless(t, join(api.TAdd, wide, num("7")))
	shapeless(t, balanced(append(leaves, leaves...)))
	// What is too deep has a depth, and a print; what has too many nodes has none.
	if got := check(t, chain(num("7"), 1999)); got.depth != 2000 || got.print != strings.Repeat("(-", 1999)+"7"+strings.Repeat(")", 1999) || len(got.args) != 1 || len(got.args[0]) != 1999 || got.err != api.ErrTerm {
		t.Errorf("2000 nodes, 2000 deep: %d, %d", got.depth, got.err)
	}
	shapeless(t, chain(num("7"), 2000))
	shapeless(t, chain(num("7"), 2001))
}

// P10.1 and P10.3: a depth of 150, and of 151, by each op and on each side.
func TestDepth(t *testing.T) {
	for op := api.TNeg; op < api.TOps; op++ {
		for side := range term.Arity(op) {
			x := px("x", 5)
			for depth := 1; depth <= 152; depth++ {
				if got, err := term.Depth(x), term.Check(x); got != depth || (err == api.OK) != (depth <= 150) || term.Print(x) == "" {
					t.Fatalf("op %d, on side %d, %d deep: %d, %d", op, side, depth, got, err)
				}
				if depth > 148 {
					check(t, x)
				}
				l := slices.Repeat([]api.Term{num("1")}, term.Arity(op))
				l[side] = x
				x = join(op, l...)
			}
		}
	}
	// The deepest one of those that it takes counts, wherever it stands.
	for a := 1; a < 5; a++ {
		for b := 1; b < 5; b++ {
			for c := 1; c < 5; c++ {
				x := join(api.TIf, chain(num("1"), a-1), chain(num("1"), b-1), chain(num("1"), c-1))
				if got := check(t, x); got.depth != 1+max(a, b, c) {
					t.Errorf("%d, %d and %d deep: %d", a, b, c, got.depth)
				}
			}
		}
	}
	for op := range api.TOps {
		if got := check(t, fitting(op)); got.depth != 1+min(1, term.Arity(op)) {
			t.Errorf("op %d: %d deep", op, got.depth)
		}
	}
}

// P10.3: a print of 20000 bytes, and of 20001.
func TestSizes(t *testing.T) {
	for _, size := range []int{40, 47, 1000, 19960, 19998, 19999, 20000, 20001, 20002, 20040, 31000} {
		x := sized(size)
		got := check(t, x)
		if len(got.print) != size || (got.err == api.OK) != (size <= 20000) || got.depth == 0 || got.depth > 150 || len(x) > 2000 || len(got.args) != 2 {
			t.Errorf("%d bytes of %d: %d, %d deep, %d nodes", len(got.print), size, got.err, got.depth, len(x))
		}
	}
	if got := check(t, join(api.TNeg, sized(19997))); len(got.print) != 20000 || got.err != api.OK {
		t.Errorf("%d bytes: %d", len(got.print), got.err)
	}
	if got := check(t, join(api.TNeg, sized(19998))); len(got.print) != 20001 || got.err != api.ErrTerm {
		t.Errorf("%d bytes: %d", len(got.print), got.err)
	}
	long := "num(-" + strings.Repeat("9", 60) + ", " + strings.Repeat("8", 59) + "3)"
	most := balanced(slices.Repeat([]api.Term{over("-"+strings.Repeat("9", 60), strings.Repeat("8", 59)+"3")}, 1000))
	if got := check(t, most); len(got.print) != 1000*len(long)+999*5 || strings.Count(got.print, long) != 1000 || got.err != api.ErrTerm {
		t.Errorf("%d bytes: %d", len(got.print), got.err)
	}
}

// P10.1: the terms that the last node takes, in order.
func TestArgs(t *testing.T) {
	a, b, c := join(api.TAdd, px("x", 5), num("2")), num("1/3"), join(api.TNeg, join(api.TMax, num("1"), days(api.TLo, "y", 1, 2)))
	for _, k := range []struct {
		x    api.Term
		want []api.Term
	}{
		{b, nil}, {px("x", 5), nil}, {days(api.TAvg, "x", 5, 6), nil}, {join(api.TNeg, a), []api.Term{a}}, {c, []api.Term{c[:3]}},
		{join(api.TSub, a, b), []api.Term{a, b}}, {join(api.TSub, b, a), []api.Term{b, a}}, {join(api.TMin, c, c), []api.Term{c, c}},
		{join(api.TIf, a, b, c), []api.Term{a, b, c}}, {join(api.TIf, c, b, a), []api.Term{c, b, a}}, {join(api.TIf, b, b, b), []api.Term{b, b, b}},
		// Their nodes need not be such as may be.
		{api.Term{{Op: api.TPx, A: -1}, {}, {Op: api.TDiv, B: 7}}, []api.Term{{{Op: api.TPx, A: -1}}, {{}}}},
		{api.Term{{}, {Op: api.TNeg, A: 1}, {Op: api.TNeg}}, []api.Term{{{}, {Op: api.TNeg, A: 1}}}},
		{api.Term{{Asset: "?"}}, nil}, {nil, nil}, {slices.Concat(a, b), nil}, {join(api.TIf, a, b), nil}, {join(api.TNeg, a, b), nil}, {join(-1, a), nil}, {join(api.TOps, a), nil},
	} {
		if got := term.Args(k.x); !same(got, k.want) {
			t.Errorf("Args(%v): %v, not %v", k.x, got, k.want)
		}
		check(t, k.x)
	}
	// Joined again, they are what they were taken from.
	random := rand.New(rand.NewSource(101))
	for range 2000 {
		x := grown(random, 1+random.Intn(6))
		last := x[len(x)-1]
		if l := term.Args(x); len(l) > 0 && !slices.Equal(term.Join(last.Op, l...), x) || len(l) != term.Arity(last.Op) {
			t.Fatalf("Args(%v): %v", x, l)
		}
	}
}

// P10.1: the terms one behind the other, and a node of that op, whatever they are.
func TestJoin(t *testing.T) {
	a, b, none := px("x", 5), join(api.TAdd, num("2"), num("-1/3")), api.Term{}
	odd := api.Term{{Op: api.TIf, Asset: "?"}, {Op: -5, A: math.MaxInt}}
	for _, op := range []int{api.TNum, api.TPx, api.TAvg, api.TNeg, api.TAdd, api.TIf, api.TOps, -1, 100, math.MinInt, math.MaxInt} {
		for _, l := range [][]api.Term{
			nil, {}, {nil}, {none}, {nil, none, nil}, {a}, {b}, {odd}, {a, b}, {b, a}, {a, a}, {a, nil, b}, {odd, a, odd, b}, {a, b, a}, {a, b, a, b, a, b, odd}, slices.Repeat([]api.Term{b}, 1000),
		} {
			var want api.Term
			for _, x := range l {
				want = append(want, x...)
			}
			want = append(want, api.Node{Op: op})
			if got := term.Join(op, l...); !slices.Equal(got, want) {
				t.Errorf("Join(%d, %.200v): %.200v", op, l, got)
			}
		}
	}
	if got := term.Join(api.TSub, a, b); !slices.Equal(got, api.Term{a[0], b[0], b[1], b[2], {Op: api.TSub}}) {
		t.Errorf("%v", got)
	}
	if got := term.Join(api.TNeg); !slices.Equal(got, api.Term{{Op: api.TNeg}}) {
		t.Errorf("%v", got)
	}
}

// leaf answers a random node of arity 0 that may be.
func leaf(r *rand.Rand) api.Term {
	asset := []string{"x", "y", "xy", "px", "x1", "x12", "num"}[r.Intn(7)]
	a := []int{0, 1, 2, 12, 9940, 9999}[r.Intn(6)]
	switch op := r.Intn(7); op {
	case api.TPx:
		return px(asset, a)
	case api.TAvg, api.THi, api.TLo:
		return days(op, asset, a, min(9999, a+r.Intn(60)))
	}
	dens := []string{"1", "1", "2", "4", "3", "10", "7", "100000000000000000000", "1000000000000000000000", strings.Repeat("7", 60)}
	return num(strconv.Itoa(r.Intn(30)-8) + "/" + dens[r.Intn(len(dens))])
}

// grown answers a random term that may be, of at most so many levels.
func grown(r *rand.Rand, levels int) api.Term {
	if levels == 1 || r.Intn(6) == 0 {
		return leaf(r)
	}
	op := api.TNeg + r.Intn(api.TOps-api.TNeg)
	many, _ := arity(op)
	var l []api.Term
	for range many {
		l = append(l, grown(r, levels-1))
	}
	return join(op, l...)
}

// turned answers x with a node of it turned into something else, which may be or not.
func turned(r *rand.Rand, x api.Term) api.Term {
	out := slices.Clone(x)
	i := r.Intn(len(out))
	switch r.Intn(9) {
	case 0:
		out[i].Op = r.Intn(api.TOps+2) - 1
	case 1:
		out[i].A += r.Intn(3) - 1
	case 2:
		out[i].B += r.Intn(3) - 1
	case 3:
		out[i].Asset += []string{"", "1", "z", "!", " "}[r.Intn(5)]
	case 4:
		out[i].Num = leaf(r)[0].Num
	case 5:
		out = slices.Delete(out, i, i+1)
	case 6:
		out = slices.Insert(out, i, x[r.Intn(len(x))])
	case 7:
		j := r.Intn(len(out))
		out[i], out[j] = out[j], out[i]
	case 8:
		out[i].Num.Num, out[i].Num.Den = out[i].Num.Den, out[i].Num.Num
	}
	return out
}

// P10.1 to P10.3: random terms, and what they turn into.
func TestRandomTerms(t *testing.T) {
	random := rand.New(rand.NewSource(10))
	many := map[api.Errno]int{}
	for range 6000 {
		x := grown(random, 1+random.Intn(6))
		for range random.Intn(4) {
			if len(x) > 0 {
				x = turned(random, x)
			}
		}
		many[check(t, x).err]++
	}
	if many[api.OK] < 1000 || many[api.ErrTerm] < 1000 {
		t.Errorf("%v", many)
	}
}

// reader reads what is printed.
type reader struct{ left string }

// eat tells whether s stands there, and goes behind it.
func (r *reader) eat(s string) bool {
	left, is := strings.CutPrefix(r.left, s)
	r.left = left
	return is
}

// until answers what stands ahead of s, and goes behind that.
func (r *reader) until(s string) string {
	out, left, _ := strings.Cut(r.left, s)
	r.left = left
	return out
}

// day answers the day ahead of s, and goes behind that.
func (r *reader) day(s string) int {
	n, err := strconv.Atoi(r.until(s))
	if err != nil {
		panic(r.left)
	}
	return n
}

// list answers so many terms, parted by commas, and goes behind the parenthesis that ends them.
func (r *reader) list(many int) []api.Term {
	var out []api.Term
	for i := range many {
		out = append(out, r.term())
		end := ", "
		if i == many-1 {
			end = ")"
		}
		if !r.eat(end) {
			panic(r.left)
		}
	}
	return out
}

// term answers the term that stands there.
func (r *reader) term() api.Term {
	for op, word := range map[int]string{api.TAvg: "avg(", api.THi: "hi(", api.TLo: "lo("} {
		if r.eat(word) {
			return days(op, r.until(", "), r.day(", "), r.day(")"))
		}
	}
	for op, word := range map[int]string{api.TMax: "max(", api.TMin: "min(", api.TIf: "if(", api.TNeg: "(-"} {
		if r.eat(word) {
			many, _ := arity(op)
			return join(op, r.list(many)...)
		}
	}
	if r.eat("px(") {
		return px(r.until(", "), r.day(")"))
	}
	if r.eat("num(") {
		return over(r.until(", "), r.until(")"))
	}
	if r.eat("(") {
		one, sign := r.term(), r.left[:3]
		r.left = r.left[3:]
		return join(map[string]int{" + ": api.TAdd, " - ": api.TSub, " * ": api.TMul, " / ": api.TDiv}[sign], one, r.list(1)[0])
	}
	size := strings.IndexFunc(r.left+"?", func(c rune) bool { return c != '.' && (c < '0' || c > '9') })
	out := num(r.left[:size])
	r.left = r.left[size:]
	return out
}

// P10.4 and P5: what is printed is read as it was, so that unlike terms have unlike prints.
func TestUnlikePrints(t *testing.T) {
	random := rand.New(rand.NewSource(104))
	terms := map[string]api.Term{}
	unlike := func(x api.Term) {
		s := term.Print(x)
		if s == "" {
			return
		}
		if other, is := terms[s]; is && !slices.Equal(other, x) {
			t.Fatalf("%q is the print of %v and of %v", s, other, x)
		}
		terms[s] = x
		r := reader{s}
		if back := r.term(); r.left != "" || !slices.Equal(back, x) {
			t.Fatalf("%q is the print of %v, and is read as %v", s, x, back)
		}
	}
	few := []api.Term{
		num("1"), num("-1"), num("10"), num("0.1"), num("1/3"), num("-1/3"), px("x", 1), px("x", 11), px("x1", 1), days(api.TAvg, "x", 1, 1), days(api.TAvg, "x", 1, 11), days(api.TAvg, "x", 11, 11), days(api.THi, "x", 1, 1), days(api.TLo, "x", 1, 1), px("num", 1), px("avg", 1),
	}
	for round := range 2 {
		for _, x := range slices.Clone(few) {
			unlike(x)
			few = append(few, join(api.TNeg, x))
		}
		if round > 0 {
			break
		}
		for _, a := range slices.Clone(few) {
			for _, b := range slices.Clone(few[:16]) {
				for op := api.TAdd; op < api.TIf; op++ {
					unlike(join(op, a, b))
					unlike(join(op, join(op, a, b), b))
					unlike(join(op, a, join(op, b, b)))
				}
				unlike(join(api.TIf, a, b, b))
				unlike(join(api.TIf, b, b, a))
			}
		}
	}
	for range 20000 {
		x := grown(random, 1+random.Intn(5))
		unlike(x)
		unlike(turned(random, x))
	}
	if len(terms) < 20000 {
		t.Errorf("only %d terms", len(terms))
	}
}

// R3 and R4: an answer that is written into later changes no argument, and no other answer.
func TestNothingIsShared(t *testing.T) {
	x := join(api.TIf, join(api.TAdd, px("x", 5), num("2")), days(api.TLo, "y", 1, 2), join(api.TNeg, num("1")))
	was := slices.Clone(x)
	want := check(t, x)
	for range 3 {
		l := term.Args(x)
		for i := range l {
			rest := slices.Concat(l[i+1:]...)
			for j := range l[i] {
				l[i][j] = api.Node{Op: -1, Asset: "?"}
			}
			// There may be room behind it, but not another one's.
			l[i] = append(l[i], api.Node{Op: -2}, api.Node{Op: -3}, api.Node{Op: -4})
			if !slices.Equal(slices.Concat(l[i+1:]...), rest) || !slices.Equal(x, was) {
				t.Fatalf("Args shares its memory: %v of %v", l, x)
			}
		}
		if got := check(t, x); got.print != want.print || !same(got.args, want.args) {
			t.Fatalf("%v, not %v", got, want)
		}
	}
	// Room behind an argument is not written into.
	room := append(make(api.Term, 0, 10), px("x", 5)...)
	behind := room[:2]
	behind[1] = api.Node{Asset: "kept"}
	list := append(make([]api.Term, 0, 4), room, room)
	got := term.Join(api.TAdd, list...)
	alone := term.Join(api.TNeg, room)
	if behind[1].Asset != "kept" || len(list) != 2 || !slices.Equal(list[0], px("x", 5)) || !slices.Equal(list[1], px("x", 5)) {
		t.Errorf("Join writes into its arguments: %v, %v", behind, list)
	}
	got[0].Asset, got[1].Asset, alone[0].Asset = "a", "b", "c"
	if room[0].Asset != "x" {
		t.Errorf("Join shares its memory: %v", room)
	}
	room[0].Asset = "d"
	if got[0].Asset != "a" || got[1].Asset != "b" || alone[0].Asset != "c" {
		t.Errorf("Join shares its memory: %v, %v", got, alone)
	}
}

// R1 and P1: every call ends, and none panics, at long arguments too.
func TestLongArguments(t *testing.T) {
	many := slices.Repeat(px("x", 5), 1<<17)
	huge := strings.Repeat("7", 1<<22)
	for _, x := range []api.Term{
		many, slices.Repeat(api.Term{{}}, 1<<17), slices.Repeat(api.Term{{Op: api.TNeg}}, 1<<17), slices.Repeat(api.Term{{Op: math.MinInt}}, 1<<17), chain(px("x", 5), 1<<17), append(many[:1999:1999], slices.Repeat(api.Term{{Op: api.TAdd}}, 1999)...),
	} {
		if got := told(t, x); got.depth != 0 || len(got.args) != 0 || got.print != "" || got.err != api.ErrTerm {
			t.Errorf("%d nodes: %d, %d", len(x), got.depth, got.err)
		}
		if got := term.Join(api.TIf, x, nil, x); len(got) != 2*len(x)+1 || got[2*len(x)].Op != api.TIf {
			t.Errorf("Join of %d nodes: %d", len(x), len(got))
		}
	}
	for _, n := range []api.Node{
		{Num: api.Rat{Num: huge, Den: "1"}}, {Num: api.Rat{Num: "-" + huge, Den: "1"}}, {Num: api.Rat{Num: "1", Den: huge}}, {Num: api.Rat{Num: huge, Den: huge}}, {Num: api.Rat{Num: strings.Repeat("-", 1<<22), Den: "1"}}, {Num: api.Rat{Num: "1", Den: strings.Repeat("\xff", 1<<22)}},
		{Op: api.TPx, Asset: huge}, {Op: api.TPx, Asset: "x" + huge}, {Op: api.THi, Asset: strings.Repeat("\x00", 1<<22)}, {Op: api.TPx, Asset: "x", Num: api.Rat{Num: huge, Den: huge}},
	} {
		if got := told(t, api.Term{n, {Op: api.TNeg}}); got.depth != 2 || len(got.args) != 1 || got.print != "" || got.err != api.ErrTerm {
			t.Errorf("op %d: %v", n.Op, got.err)
		}
	}
	long := balanced(slices.Repeat([]api.Term{over("-"+strings.Repeat("9", 60), strings.Repeat("8", 59)+"3")}, 1000))
	left := long[:1]
	for range 999 {
		left = join(api.TMax, left, long[:1])
	}
	if got := told(t, left); got.depth != 1000 || len(got.args) != 2 || len(got.print) != 1000*len(term.Print(long[:1]))+999*len("max(, )") || got.err != api.ErrTerm {
		t.Errorf("%d deep: %d bytes, %d", got.depth, len(got.print), got.err)
	}
}
