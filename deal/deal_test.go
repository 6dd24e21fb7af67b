package deal_test

import (
	"fmt"
	"math"
	"math/big"
	"regexp"
	"slices"
	"strconv"
	"strings"
	"testing"

	"debenture/api"
	"debenture/deal"
	"debenture/eval"
	"debenture/parse"
	"debenture/term"
)

// example is the document's one.
const example = "c1 ann bob 9 100 right : max((px(x, 9) - 50), 0)"

// of answers a number as the package has it.
func of(x *big.Rat) api.Rat {
	return api.Rat{Num: x.Num().String(), Den: x.Denom().String()}
}

// figured answers the number of a text.
func figured(s string) *big.Rat {
	x, is := new(big.Rat).SetString(s)
	if !is {
		panic(s)
	}
	return x
}

// fix answers a fix, its price from a text.
func fix(asset string, day int, p string) api.Fix {
	return api.Fix{Asset: asset, Day: day, P: of(figured(p))}
}

// row answers the fixes of an asset from a day on, day by day, of the prices that stand in a text.
func row(asset string, from int, prices string) []api.Fix {
	var out []api.Fix
	for i, p := range strings.Fields(prices) {
		out = append(out, fix(asset, from+i, p))
	}
	return out
}

// read answers the term that a text means.
func read(s string) api.Term {
	out, err, _, _ := parse.Parse(s)
	if err != api.OK {
		panic(s)
	}
	return out
}

// join answers the terms, one behind the other, and a node of that op.
func join(op int, l ...api.Term) api.Term {
	return append(slices.Concat(l...), api.Node{Op: op})
}

// balanced answers the terms joined by an op of two, of few levels.
func balanced(op int, l []api.Term) api.Term {
	if len(l) == 1 {
		return l[0]
	}
	return join(op, balanced(op, l[:len(l)/2]), balanced(op, l[len(l)/2:]))
}

// chain answers x with so many signs ahead of it.
func chain(x api.Term, many int) api.Term {
	return append(slices.Clone(x), slices.Repeat(api.Term{{Op: api.TNeg}}, many)...)
}

// sized answers a sum of prices on day 1 that may be but for its size, of which the print has so many bytes, from 40 on: of assets of the letter q alone.
func sized(bytes int) api.Term {
	asset := func(length int) api.Term {
		return api.Term{{Op: api.TPx, Asset: strings.Repeat("q", length), A: 1}}
	}
	var leaves []api.Term
	// Beside its name, a leaf has 7 bytes, and comes with 5 that join it, but for the first one.
	left := bytes + 5
	for ; left > 64; left -= 32 {
		leaves = append(leaves, asset(20))
	}
	return balanced(api.TAdd, append(leaves, asset(left/2-12), asset(left-left/2-12)))
}

// most answers a term of 2000 nodes: a sign ahead of 1000 times x, joined by an op of two.
func most(op int, x api.Term) api.Term {
	return join(api.TNeg, balanced(op, slices.Repeat([]api.Term{x}, 1000)))
}

// mult answers a deal's Mult, from a text.
func mult(s string) api.Rat {
	return of(figured(s))
}

// power answers a number's power in digits.
func power(base, exponent int64) string {
	return new(big.Int).Exp(big.NewInt(base), big.NewInt(exponent), nil).String()
}

// flat answers a deal that need not be chosen.
func flat(m, pay string) api.Deal {
	return api.Deal{Name: "c1", Long: "ann", Short: "bob", Day: 9, Mult: mult(m), Pay: read(pay)}
}

// right answers a deal that has to be chosen.
func right(m, pay string) api.Deal {
	d := flat(m, pay)
	d.Right = true
	return d
}

// clone answers a deal that shares nothing with d.
func clone(d api.Deal) api.Deal {
	d.Pay = slices.Clone(d.Pay)
	return d
}

// turned answers d with a thing about it changed.
func turned(d api.Deal, turn func(d *api.Deal)) api.Deal {
	d = clone(d)
	turn(&d)
	return d
}

// same tells whether two deals are the same, field by field.
func same(d, e api.Deal) bool {
	return d.Name == e.Name && d.Long == e.Long && d.Short == e.Short && d.Day == e.Day && d.Mult == e.Mult && d.Right == e.Right && slices.Equal(d.Pay, e.Pay)
}

// The document's forms, for a second reading.
var (
	nameForm  = regexp.MustCompile(`^[!a-z0-9][a-z0-9]{0,19}$`)
	wholeForm = regexp.MustCompile(`^(0|-?[1-9][0-9]*)$`)
	aboveForm = regexp.MustCompile(`^[1-9][0-9]*$`)
	textForm  = regexp.MustCompile(`^([!a-z0-9]+) ([!a-z0-9]+) ([!a-z0-9]+) (0|[1-9][0-9]*) (-?[0-9]+(?:[./][0-9]+)?) (right|flat) : ((?s:.*))$`)
)

// mayMult tells by a second reading whether x may be a deal's Mult.
func mayMult(x api.Rat) bool {
	if !wholeForm.MatchString(x.Num) || !aboveForm.MatchString(x.Den) || x.Num == "0" || len(strings.Trim(x.Num, "-")) > 60 || len(x.Den) > 60 {
		return false
	}
	return x == of(figured(x.Num+"/"+x.Den))
}

// may tells by a second reading whether d may be.
func may(d api.Deal) bool {
	for _, name := range []string{d.Name, d.Long, d.Short} {
		if !nameForm.MatchString(name) {
			return false
		}
	}
	return d.Long != d.Short && d.Day >= 0 && d.Day < 10000 && mayMult(d.Mult) && term.Check(d.Pay) == api.OK
}

// printMult answers by a second reading the print of a Mult.
func printMult(x api.Rat) string {
	n := figured(x.Num + "/" + x.Den)
	if places, is := n.FloatPrec(); is {
		return n.FloatString(places)
	}
	return x.Num + "/" + x.Den
}

// printed answers by a second reading the print of a deal.
func printed(d api.Deal) string {
	if !may(d) {
		return ""
	}
	kind := "flat"
	if d.Right {
		kind = "right"
	}
	return d.Name + " " + d.Long + " " + d.Short + " " + strconv.Itoa(d.Day) + " " + printMult(d.Mult) + " " + kind + " : " + term.Print(d.Pay)
}

// said answers by a second reading the deal of a text, and whether there is one.
func said(s string) (api.Deal, bool) {
	l := textForm.FindStringSubmatch(s)
	if l == nil || len(l[5]) > 1000 || len(l[4]) > 4 {
		return api.Deal{}, false
	}
	if _, den, is := strings.Cut(l[5], "/"); is && strings.Trim(den, "0") == "" {
		return api.Deal{}, false
	}
	day, _ := strconv.Atoi(l[4])
	// The library takes zeros ahead as an octal number's.
	x, _ := new(big.Rat).SetString(decimalText(l[5]))
	pay, err, _, _ := parse.Parse(l[7])
	d := api.Deal{Name: l[1], Long: l[2], Short: l[3], Day: day, Mult: of(x), Right: l[6] == "right", Pay: pay}
	if err != api.OK || !may(d) {
		return api.Deal{}, false
	}
	return d, true
}

// decimalText answers a number's text without zeros ahead.
func decimalText(s string) string {
	sign := ""
	if strings.HasPrefix(s, "-") {
		sign, s = "-", s[1:]
	}
	num, den, is := strings.Cut(s, "/")
	num = strings.TrimLeft(num, "0")
	if num == "" || num[0] == '.' {
		num = "0" + num
	}
	if !is {
		return sign + num
	}
	return sign + num + "/" + strings.TrimLeft(den, "0")
}

// cents answers by a second reading x in whole cents, by halves to the even one.
func cents(x *big.Rat) *big.Rat {
	x = new(big.Rat).Mul(x, big.NewRat(100, 1))
	below, rest := new(big.Int).DivMod(x.Num(), x.Denom(), new(big.Int))
	twice := rest.Lsh(rest, 1).Cmp(x.Denom())
	if twice > 0 || twice == 0 && below.Bit(0) == 1 {
		below.Add(below, big.NewInt(1))
	}
	return new(big.Rat).SetFrac(below, big.NewInt(100))
}

// amount answers by a second reading what a deal comes to.
func amount(d api.Deal, l []api.Fix, is bool) (api.Rat, api.Errno) {
	if !may(d) {
		return api.Rat{}, 140
	}
	x, err := eval.Eval(d.Pay, l)
	if err != api.OK {
		return api.Rat{}, err
	}
	if d.Right && !is {
		return api.Rat{Num: "0", Den: "1"}, api.OK
	}
	return of(cents(new(big.Rat).Mul(figured(d.Mult.Num+"/"+d.Mult.Den), figured(x.Num+"/"+x.Den)))), api.OK
}

// brief answers d as it is told where something is wrong with it: a Pay may have very many nodes.
func brief(d api.Deal) string {
	if len(d.Pay) > 5 {
		return fmt.Sprintf("%.100v, in all %d nodes", turned(d, func(d *api.Deal) { d.Pay = d.Pay[:5] }), len(d.Pay))
	}
	return fmt.Sprintf("%.100v", d)
}

// told answers what Amount tells, which has to leave what it is handed as it is.
func told(t *testing.T, d api.Deal, l []api.Fix, is bool) (api.Rat, api.Errno) {
	t.Helper()
	was, table := clone(d), slices.Clone(l)
	got, err := deal.Amount(d, l, is)
	if !same(d, was) || !slices.Equal(l, table) {
		t.Fatalf("Amount of %s by %.300v leaves %s and %.300v", brief(was), table, brief(d), l)
	}
	if err != api.OK && got != (api.Rat{}) {
		t.Fatalf("Amount of %s: %.100v beside %d", brief(d), got, err)
	}
	return got, err
}

// comes wants that d comes to that by l, and, if it is a right, to 0 where it is not chosen.
func comes(t *testing.T, d api.Deal, l []api.Fix, want string) {
	t.Helper()
	for _, is := range []bool{true, false} {
		if d.Right && !is {
			want = "0"
		}
		if got, err := told(t, d, l, is); got != mult(want) || err != api.OK {
			t.Errorf("%.300s comes to %.200v, %d, not %.200s (chosen: %t)", printed(d), got, err, want, is)
		}
	}
}

// fails wants that d comes to that error by l, be it chosen or not.
func fails(t *testing.T, d api.Deal, l []api.Fix, want api.Errno) {
	t.Helper()
	for _, is := range []bool{true, false} {
		if got, err := told(t, d, l, is); got != (api.Rat{}) || err != want {
			t.Fatalf("%s by %.300v comes to %.200v, %d, not %d (chosen: %t)", brief(d), l, got, err, want, is)
		}
	}
}

// parsed answers what Parse tells: with an error the zero deal, and no other error than ErrDeal.
func parsed(t *testing.T, s string) (api.Deal, bool) {
	t.Helper()
	d, err := deal.Parse(s)
	if err != api.OK && (err != 140 || !same(d, api.Deal{}) || len(d.Pay) != 0) {
		t.Fatalf("Parse of %.300q: %s, %d", s, brief(d), err)
	}
	return d, err == api.OK
}

// refuses wants that a text is none of a deal.
func refuses(t *testing.T, s string) {
	t.Helper()
	if d, is := parsed(t, s); is {
		t.Errorf("Parse of %.300q takes %s", s, brief(d))
	}
}

// good wants all that holds of a deal that may be.
func good(t *testing.T, d api.Deal) {
	t.Helper()
	was := clone(d)
	if !deal.May(d) {
		t.Fatalf("%s may not be", brief(d))
	}
	s := deal.Print(d)
	if want := printed(d); s == "" || s != want {
		t.Fatalf("%s is printed as %.300q, not %.300q", brief(d), s, want)
	}
	if got, is := parsed(t, s); !is || !same(got, d) {
		t.Fatalf("%.300q is parsed as %s, not %s", s, brief(got), brief(d))
	}
	if !same(d, was) {
		t.Fatalf("%s has become %s", brief(was), brief(d))
	}
}

// bad wants all that holds of a deal that may not be.
func bad(t *testing.T, d api.Deal) {
	t.Helper()
	was := clone(d)
	if deal.May(d) {
		t.Fatalf("%s may be", brief(d))
	}
	if s := deal.Print(d); s != "" {
		t.Fatalf("%s is printed as %.300q", brief(d), s)
	}
	for _, l := range [][]api.Fix{nil, {}, sample(), {{}}} {
		fails(t, d, l, 140)
	}
	if !same(d, was) {
		t.Fatalf("%s has become %s", brief(was), brief(d))
	}
}

// held wants that d may be just if a second reading tells so, and all that follows.
func held(t *testing.T, d api.Deal) bool {
	t.Helper()
	if !may(d) {
		bad(t, d)
		return false
	}
	good(t, d)
	return true
}

// sample answers a table: of prices that are 0, below 0, and fractions; x lacks day 4.
func sample() []api.Fix {
	return slices.Concat([]api.Fix{fix("!x", 1, "100")}, row("x", 0, "5 1 2 6"), row("x", 5, "10 9 8 7/2 60"), row("y", 1, "-1/2 0 0.001 -0.001 1/3"), row("z", 9998, "53 47"))
}

// deals answers deals that may be: rights and flat ones, of each op, and of each kind of Mult.
func deals() []api.Deal {
	ann := func(name string, day int, m string, right bool, pay string) api.Deal {
		return api.Deal{Name: name, Long: "ann", Short: "bob", Day: day, Mult: mult(m), Right: right, Pay: read(pay)}
	}
	return []api.Deal{
		ann("c1", 9, "100", true, "max((px(x, 9) - 50), 0)"), ann("c2", 0, "-1/3", false, "1 + 2"), ann("c3", 9999, "0.5", false, "7"), ann("c4", 1, "-12.5", true, "num(-1, 3)"),
		ann("c5", 10, "7", false, "px(x, 0)"), ann("c6", 99, "1", true, "avg(x, 1, 3)"), ann("c7", 100, "-1", false, "hi(x, 5, 8)"), ann("c8", 999, "22/7", true, "lo(y, 1, 4)"),
		ann("c9", 1000, "0.001", false, "-px(x, 1)"), ann("c10", 5, "-0.001", true, "px(x, 1) - px(x, 2)"), ann("c11", 5, "1000000", false, "px(x, 1) * px(y, 5)"), ann("c12", 5, "1/1000001", true, "px(x, 1) / px(x, 3)"),
		ann("c13", 5, "-3", false, "min(px(x, 1), px(y, 1))"), ann("c14", 5, "2", true, "if(px(x, 1), px(x, 2), px(x, 3))"), ann("c15", 5, "4", false, "px(nowhere, 3)"), ann("c16", 5, "4", true, "1 / px(y, 2)"),
		{Name: "!", Long: "!issuer", Short: "!round", Day: 5, Mult: mult("1"), Pay: read("px(cash, 3)")}, {Name: "1", Long: "2", Short: "3", Day: 5, Mult: mult("1"), Right: true, Pay: read("0")},
		{Name: "ann", Long: "ann", Short: "bob", Day: 5, Mult: mult("1"), Pay: read("1")}, {Name: "bob", Long: "ann", Short: "bob", Day: 5, Mult: mult("1"), Pay: read("1")},
		{Name: "right", Long: "flat", Short: "cash", Day: 5, Mult: mult("1"), Pay: read("px(px, 5)")},
	}
}

// P14.1: deals that may be, and those with Long and Short changed with each other.
func TestDealsThatMayBe(t *testing.T) {
	for _, d := range deals() {
		if !held(t, d) {
			t.Errorf("%v may not be", d)
		}
		good(t, turned(d, func(d *api.Deal) { d.Right = !d.Right }))
		good(t, turned(d, func(d *api.Deal) { d.Long, d.Short = d.Short, d.Long }))
		bad(t, turned(d, func(d *api.Deal) { d.Long = d.Short }))
		bad(t, turned(d, func(d *api.Deal) { d.Short = d.Long }))
	}
	bad(t, api.Deal{})
	bad(t, api.Deal{Right: true})
}

// named answers deals, and d among them, of which the name, the long one or the short one is that.
func named(d api.Deal, name string) []api.Deal {
	return []api.Deal{
		turned(d, func(d *api.Deal) { d.Name = name }),
		turned(d, func(d *api.Deal) { d.Long = name }),
		turned(d, func(d *api.Deal) { d.Short = name }),
	}
}

// P14.1: names of each size, and of each byte at the first place, at the second, and at the last one.
func TestNames(t *testing.T) {
	d := deals()[0]
	names := map[bool]int{}
	try := func(name string) {
		for _, d := range named(d, name) {
			names[held(t, d)]++
		}
	}
	for size := range 25 {
		try(strings.Repeat("a", size))
		try(strings.Repeat("9", size))
		try("!" + strings.Repeat("z", size))
	}
	for c := range 256 {
		one := string([]byte{byte(c)})
		for _, name := range []string{one, one + "a", "a" + one, "a" + one + "a", strings.Repeat("b", 19) + one, one + strings.Repeat("b", 19), strings.Repeat("b", 20) + one} {
			try(name)
		}
	}
	for _, name := range []string{"!!", "a!", "A", "Ann", "ann bob", " ann", "ann ", "ä", "a\n", "\na", "a-b", "a_b", "\x00", "a\x00", strings.Repeat("a", 1<<20), strings.Repeat(" ", 1<<20), ":", "-1", "1.5", "a:"} {
		for _, d := range named(d, name) {
			bad(t, d)
		}
	}
	for _, name := range []string{"!", "0", "z", "!a", "!0", "!issuer", "!round", "cash", "abcdefghijklmnopqrst", "!bcdefghijklmnopqrst", "01234567890123456789", "right", "flat", "if"} {
		for _, d := range named(d, name) {
			good(t, d)
		}
	}
	if names[true] < 300 || names[false] < 3000 {
		t.Errorf("%v", names)
	}
}

// P14.1: days over both edges.
func TestDays(t *testing.T) {
	for _, d := range deals()[:3] {
		for _, day := range []int{0, 1, 9, 10, 11, 99, 100, 999, 1000, 5000, 9998, 9999} {
			good(t, turned(d, func(d *api.Deal) { d.Day = day }))
		}
		for _, day := range []int{-1, -2, -9999, -10000, 10000, 10001, 99999, 1 << 16, 1 << 31, 1 << 32, math.MaxInt32, math.MinInt32, math.MaxInt, math.MaxInt - 1, math.MinInt, math.MinInt + 1} {
			bad(t, turned(d, func(d *api.Deal) { d.Day = day }))
		}
	}
}

// longs answers numbers of 60 digits, and of fewer: each of them over each one that shares no divisor with it may be a Mult.
func longs() []string {
	return []string{"1", "2", "3", "10", strings.Repeat("9", 59), strings.Repeat("9", 60), "1" + strings.Repeat("0", 58), "1" + strings.Repeat("0", 59), "1" + strings.Repeat("0", 58) + "1", power(2, 199), power(5, 85), power(3, 125), power(7, 70)}
}

// tooLongs answers numbers of 61 digits, and of more.
func tooLongs() []string {
	return []string{strings.Repeat("9", 61), "1" + strings.Repeat("0", 60), "1" + strings.Repeat("0", 59) + "1", power(2, 200), power(5, 86), power(3, 126), power(7, 71), strings.Repeat("7", 62), strings.Repeat("1", 100), strings.Repeat("1", 1000)}
}

// P14.1: a Mult of as many digits as may be, above and below, with a sign and without, and of one more.
func TestLongMults(t *testing.T) {
	d := deals()[0]
	many := 0
	for _, num := range longs() {
		for _, den := range longs() {
			for _, sign := range []string{"", "-"} {
				x := api.Rat{Num: sign + num, Den: den}
				if held(t, turned(d, func(d *api.Deal) { d.Mult = x })) {
					many++
				}
				good(t, turned(d, func(d *api.Deal) { d.Mult = mult(sign + num + "/" + den) }))
			}
		}
	}
	if many < 100 {
		t.Errorf("%d", many)
	}
	for _, num := range tooLongs() {
		for _, l := range [][2]string{{num, "1"}, {"-" + num, "1"}, {"1", num}, {"-1", num}, {num, "13"}, {"13", num}, {num, power(11, 57)}, {power(11, 57), num}, {"0", num}, {"-" + num, "0"}} {
			bad(t, turned(d, func(d *api.Deal) { d.Mult = api.Rat{Num: l[0], Den: l[1]} }))
		}
	}
	for _, s := range []string{strings.Repeat("1", 60), "-" + strings.Repeat("1", 60), "1/" + strings.Repeat("1", 60), "-1/" + strings.Repeat("1", 60), power(2, 199) + "/" + power(3, 125), "-" + power(3, 125) + "/" + power(2, 199), power(2, 199) + "/" + power(5, 85)} {
		good(t, turned(d, func(d *api.Deal) { d.Mult = mult(s) }))
	}
}

// P14.1: a Mult that is 0, or that may not be.
func TestWrongMults(t *testing.T) {
	long := strings.Repeat("3", 1<<20)
	for _, d := range deals()[:4] {
		for _, x := range []api.Rat{
			{}, {Num: "0", Den: "1"}, {Num: "-0", Den: "1"}, {Num: "0", Den: "2"}, {Num: "0", Den: "0"}, {Num: "1", Den: "0"}, {Num: "-1", Den: "0"}, {Num: "1"}, {Den: "1"}, {Num: "-", Den: "1"}, {Num: "--1", Den: "1"},
			{Num: "2", Den: "2"}, {Num: "2", Den: "4"}, {Num: "-6", Den: "9"}, {Num: "1", Den: "-1"}, {Num: "-1", Den: "-1"}, {Num: "01", Den: "1"}, {Num: "-01", Den: "1"}, {Num: "1", Den: "01"}, {Num: "+1", Den: "1"}, {Num: "1", Den: "+1"},
			{Num: "1.5", Den: "1"}, {Num: "1/2", Den: "1"}, {Num: "x", Den: "1"}, {Num: "1", Den: "x"}, {Num: " 1", Den: "1"}, {Num: "1 ", Den: "1"}, {Num: "1", Den: "1 "}, {Num: "1\n", Den: "1"}, {Num: "1e3", Den: "1"}, {Num: "\xff", Den: "\xff"}, {Num: "١", Den: "1"},
			{Num: long, Den: "1"}, {Num: "1", Den: long}, {Num: "-" + long, Den: long + "1"}, {Num: strings.Repeat("-", 1<<20), Den: "1"}, {Num: strings.Repeat("0", 61), Den: "1"}, {Num: "-" + strings.Repeat("0", 60), Den: "1"},
		} {
			bad(t, turned(d, func(d *api.Deal) { d.Mult = x }))
		}
	}
}

// notTerms answers terms that may not be: not formed, with a node that may not be, too deep, with too many nodes, and with too long a print.
func notTerms() []api.Term {
	px, one := read("px(x, 1)"), read("1")
	return []api.Term{
		nil, {}, {{Op: api.TNeg}}, {{Op: api.TAdd}}, {{Op: api.TIf}}, slices.Concat(px, px), join(api.TAdd, px), join(api.TNeg, px, px), join(api.TMax, px, px, px), join(api.TIf, px, px), {{Op: -1}}, {{Op: api.TOps}}, {{Op: math.MinInt}}, {{Op: math.MaxInt}}, join(13, px, px),
		{{}}, {{Num: api.Rat{Num: "1"}}}, {{Num: api.Rat{Num: "2", Den: "2"}}}, {{Num: api.Rat{Num: "1", Den: "0"}}}, {{Num: api.Rat{Num: "-0", Den: "1"}}}, {{Num: api.Rat{Num: "1" + strings.Repeat("0", 60), Den: "1"}}}, {{Num: one[0].Num, A: 1}},
		{{Op: api.TPx}}, {{Op: api.TPx, Asset: "X", A: 1}}, {{Op: api.TPx, Asset: "!x", A: 1}}, {{Op: api.TPx, Asset: "1x", A: 1}}, {{Op: api.TPx, Asset: "x", A: -1}}, {{Op: api.TPx, Asset: "x", A: 10000}}, {{Op: api.TPx, Asset: "x", A: 1, B: 1}}, {{Op: api.TPx, Asset: "x", A: 1, Num: one[0].Num}},
		{{Op: api.TAvg, Asset: "x", A: 2, B: 1}}, {{Op: api.THi, Asset: "x", A: 0, B: 60}}, {{Op: api.TLo, Asset: "x", A: 9999, B: 10000}}, {{Op: api.TAvg, Asset: "x", A: math.MinInt, B: math.MaxInt}},
		append(slices.Clone(px), api.Node{Op: api.TNeg, A: 1}), append(slices.Clone(px), api.Node{Op: api.TNeg, Asset: "x"}),
		chain(px, 150), chain(one, 150), chain(px, 1999), chain(px, 100000), slices.Repeat(px, 2000), slices.Repeat(px, 100000), join(api.TNeg, most(api.TAdd, one)), sized(20001), sized(20002), sized(31000),
	}
}

// P14.1: a Pay that may not be.
func TestWrongPays(t *testing.T) {
	for _, x := range notTerms() {
		for _, d := range deals()[:2] {
			bad(t, turned(d, func(d *api.Deal) { d.Pay = x }))
		}
	}
}

// P14.1 and P14.3: a Pay as large, as deep and as long in print as may be.
func TestGreatPays(t *testing.T) {
	one, x := read("1"), read("px(y, 0)")
	left, right := x, x
	for range 149 {
		left, right = join(api.TSub, left, x), join(api.TSub, x, right)
	}
	for _, d := range deals()[:4] {
		for _, pay := range []api.Term{most(api.TAdd, one), most(api.TMul, read("2")), most(api.TMax, one), chain(x, 149), chain(one, 149), left, right, sized(20000), sized(19999)} {
			d.Pay = pay
			good(t, d)
			bad(t, turned(d, func(d *api.Deal) { d.Pay = join(api.TNeg, d.Pay) }))
		}
		d.Pay = sized(19997)
		good(t, d)
		good(t, turned(d, func(d *api.Deal) { d.Pay = join(api.TNeg, d.Pay) }))
	}
	// All that may be is as long as may be.
	d := api.Deal{Name: strings.Repeat("n", 20), Long: strings.Repeat("l", 20), Short: "!" + strings.Repeat("s", 19), Day: 9999, Mult: mult("-" + power(3, 125) + "/" + power(2, 199)), Right: true, Pay: sized(20000)}
	good(t, d)
	d.Mult = mult("-" + power(3, 125) + "/" + power(7, 70))
	good(t, d)
}

// P14.1: what is wrong with more than one thing may not be either.
func TestWrongTwice(t *testing.T) {
	turns := []func(d *api.Deal){
		func(d *api.Deal) { d.Name = "" }, func(d *api.Deal) { d.Name = "A" }, func(d *api.Deal) { d.Long = "a b" }, func(d *api.Deal) { d.Short = "b!" }, func(d *api.Deal) { d.Short = d.Long }, func(d *api.Deal) { d.Day = -1 }, func(d *api.Deal) { d.Day = 10000 },
		func(d *api.Deal) { d.Mult = api.Rat{} }, func(d *api.Deal) { d.Mult = mult("0") }, func(d *api.Deal) { d.Mult = api.Rat{Num: "2", Den: "2"} }, func(d *api.Deal) { d.Pay = nil }, func(d *api.Deal) { d.Pay = api.Term{{Op: api.TNeg}} },
	}
	for _, d := range deals() {
		for _, one := range turns {
			for _, other := range turns {
				bad(t, turned(turned(d, one), other))
			}
		}
	}
}
