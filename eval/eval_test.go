package eval_test

import (
	"math"
	"math/big"
	"math/rand"
	"slices"
	"strconv"
	"strings"
	"testing"

	"debenture/api"
	"debenture/eval"
	"debenture/parse"
	"debenture/term"
)

// of answers a number as the package has it.
func of(x *big.Rat) api.Rat {
	return api.Rat{Num: x.Num().String(), Den: x.Denom().String()}
}

// figure answers the number of a Rat that may be.
func figure(x api.Rat) *big.Rat {
	return figured(x.Num + "/" + x.Den)
}

// figured answers the number of a text.
func figured(s string) *big.Rat {
	x, is := new(big.Rat).SetString(s)
	if !is {
		panic(s)
	}
	return x
}

// fix answers a fix, its price from a text.
func fix(asset string, day int, p string) api.Fix {
	return api.Fix{Asset: asset, Day: day, P: of(figured(p))}
}

// row answers the fixes of an asset from a day on, day by day, of the prices that stand in a text.
func row(asset string, from int, prices string) []api.Fix {
	var out []api.Fix
	for i, p := range strings.Fields(prices) {
		out = append(out, fix(asset, from+i, p))
	}
	return out
}

// need answers the need of a price.
func need(asset string, day int) api.Fix {
	return api.Fix{Asset: asset, Day: day}
}

// span answers the needs of an asset on the days from a to b.
func span(asset string, a, b int) []api.Fix {
	var out []api.Fix
	for day := a; day <= b; day++ {
		out = append(out, need(asset, day))
	}
	return out
}

// compare holds assets, and then days, against each other.
func compare(f, g api.Fix) int {
	if f.Asset != g.Asset {
		return strings.Compare(f.Asset, g.Asset)
	}
	return f.Day - g.Day
}

// sorted answers the fixes of all these lists in order.
func sorted(l ...[]api.Fix) []api.Fix {
	out := slices.Concat(l...)
	slices.SortFunc(out, compare)
	return out
}

// without answers l without the fix of that asset and day.
func without(l []api.Fix, f api.Fix) []api.Fix {
	return slices.DeleteFunc(slices.Clone(l), func(g api.Fix) bool { return g.Asset == f.Asset && g.Day == f.Day })
}

// read answers the term that a text means.
func read(s string) api.Term {
	out, err, _, _ := parse.Parse(s)
	if err != api.OK {
		panic(s)
	}
	return out
}

// join answers the terms, one behind the other, and a node of that op.
func join(op int, l ...api.Term) api.Term {
	return append(slices.Concat(l...), api.Node{Op: op})
}

// balanced answers the terms joined by an op of two, of few levels.
func balanced(op int, l []api.Term) api.Term {
	if len(l) == 1 {
		return l[0]
	}
	return join(op, balanced(op, l[:len(l)/2]), balanced(op, l[len(l)/2:]))
}

// chain answers x with so many signs ahead of it.
func chain(x api.Term, many int) api.Term {
	return append(slices.Clone(x), slices.Repeat(api.Term{{Op: api.TNeg}}, many)...)
}

// wanted answers by a second reading the needs of a term that may be.
func wanted(x api.Term) []api.Fix {
	var out []api.Fix
	add := func(f api.Fix) {
		if !slices.Contains(out, f) {
			out = append(out, f)
		}
	}
	for _, n := range x {
		switch n.Op {
		case 1:
			add(need(n.Asset, n.A))
		case 2, 3, 4:
			for _, f := range span(n.Asset, n.A, n.B) {
				add(f)
			}
		}
	}
	return sorted(out)
}

// second reckons a term from its last node on.
type second struct {
	left    api.Term
	prices  map[api.Fix]*big.Rat
	lacking bool
	divided bool
}

// price answers a price, and 1 in the place of one that lacks.
func (s *second) price(asset string, day int) *big.Rat {
	p, is := s.prices[need(asset, day)]
	if !is {
		s.lacking = true
		return big.NewRat(1, 1)
	}
	return p
}

// days answers what is told of the prices of a node.
func (s *second) days(n api.Node) *big.Rat {
	all, high, low := new(big.Rat), s.price(n.Asset, n.A), s.price(n.Asset, n.A)
	for day := n.A; day <= n.B; day++ {
		p := s.price(n.Asset, day)
		all = new(big.Rat).Add(all, p)
		if p.Cmp(high) > 0 {
			high = p
		}
		if p.Cmp(low) < 0 {
			low = p
		}
	}
	return []*big.Rat{all.Mul(all, big.NewRat(1, int64(n.B-n.A+1))), high, low}[n.Op-2]
}

// two answers what an op of two makes of x and y, and 1 of what is divided by 0.
func (s *second) two(op int, x, y *big.Rat) *big.Rat {
	switch op {
	case 6:
		return new(big.Rat).Add(x, y)
	case 7:
		return new(big.Rat).Sub(x, y)
	case 8:
		return new(big.Rat).Mul(x, y)
	case 9:
		if y.Sign() == 0 {
			s.divided = true
			return big.NewRat(1, 1)
		}
		return new(big.Rat).Quo(x, y)
	case 10:
		return []*big.Rat{y, y, x}[x.Cmp(y)+1]
	case 11:
		return []*big.Rat{x, x, y}[x.Cmp(y)+1]
	}
	panic(op)
}

// last takes away what the last node stands for, and answers what that comes to.
func (s *second) last() *big.Rat {
	n := s.left[len(s.left)-1]
	s.left = s.left[:len(s.left)-1]
	switch n.Op {
	case 0:
		return figure(n.Num)
	case 1:
		return s.price(n.Asset, n.A)
	case 2, 3, 4:
		return s.days(n)
	case 5:
		return new(big.Rat).Neg(s.last())
	case 12:
		third, other, first := s.last(), s.last(), s.last()
		if first.Sign() > 0 {
			return other
		}
		return third
	}
	y, x := s.last(), s.last()
	return s.two(n.Op, x, y)
}

// said answers what the document's words say of a term and a table that may be.
func said(x api.Term, l []api.Fix) (api.Rat, api.Errno) {
	s := second{left: x, prices: map[api.Fix]*big.Rat{}}
	for _, f := range l {
		s.prices[need(f.Asset, f.Day)] = figure(f.P)
	}
	out := s.last()
	if s.lacking {
		return api.Rat{}, api.ErrEvalNone
	}
	if s.divided {
		return api.Rat{}, api.ErrEvalZero
	}
	return of(out), api.OK
}

// told answers what Eval tells, which has to leave what it is handed as it is.
func told(t *testing.T, x api.Term, l []api.Fix) (api.Rat, api.Errno) {
	t.Helper()
	term, table := slices.Clone(x), slices.Clone(l)
	got, err := eval.Eval(x, l)
	if !slices.Equal(x, term) || !slices.Equal(l, table) {
		t.Fatalf("Eval of %.300v by %.300v leaves %.300v and %.300v", term, table, x, l)
	}
	if err != api.OK && got != (api.Rat{}) {
		t.Fatalf("Eval of %.300v: %.100v beside %d", x, got, err)
	}
	return got, err
}

// comes wants that x comes to that by l.
func comes(t *testing.T, x api.Term, l []api.Fix, want string) {
	t.Helper()
	if got, err := told(t, x, l); got != of(figured(want)) || err != api.OK {
		t.Errorf("%.300s comes to %.200v, %d, not %.200s", term.Print(x), got, err, want)
	}
}

// fails wants that x comes to that error by l.
func fails(t *testing.T, x api.Term, l []api.Fix, want api.Errno) {
	t.Helper()
	if got, err := told(t, x, l); got != (api.Rat{}) || err != want {
		t.Errorf("%.300v by %.300v comes to %.200v, %d, not %d", x, l, got, err, want)
	}
}

// check wants of x and l, which may be, what a second reading tells.
func check(t *testing.T, x api.Term, l []api.Fix) (api.Rat, api.Errno) {
	t.Helper()
	want, wantErr := said(x, l)
	got, err := told(t, x, l)
	if got != want || err != wantErr {
		t.Fatalf("%.300s by %.600v comes to %.200v, %d, not %.200v, %d", term.Print(x), l, got, err, want, wantErr)
	}
	needs(t, x, wanted(x))
	return got, err
}

// needs wants just these needs of x.
func needs(t *testing.T, x api.Term, want []api.Fix) {
	t.Helper()
	was := slices.Clone(x)
	if got := eval.Needs(x); !slices.Equal(got, want) {
		t.Fatalf("Needs of %.300s: %.600v, not %.600v", term.Print(x), got, want)
	}
	if !slices.Equal(x, was) {
		t.Fatalf("Needs of %.300v leaves %.300v", was, x)
	}
}

// sample answers a table: of assets of which one is the begin of the other, on the first and the last days, of prices that are 0, below 0, and fractions; x lacks day 4.
func sample() []api.Fix {
	return slices.Concat(
		[]api.Fix{fix("!x", 1, "100")},
		[]api.Fix{fix("1x", 1, "200")},
		row("a", 0, "3 1/3 -2"), row("a", 9997, "4 5 6"),
		row("x", 1, "1 2 6"), row("x", 5, "10 9 8 7/2"),
		row("x1", 1, "-5 0 5"),
		row("xx", 0, "1/7 2/7 3/7 4/7"),
		row("y", 3, "-1/2 0 0.001 -0.001 100000000000000000000000000000"),
	)
}

// notTables answers tables that may not be, of which most have all that sample has.
func notTables() [][]api.Fix {
	good := sample()
	out := [][]api.Fix{{{}}, {{Asset: "x", Day: 1}}, {fix("x", 2, "1"), fix("x", 1, "1")}, {fix("x", 1, "1"), fix("x", 1, "1")}, {fix("x", 1, "1"), fix("x", 1, "2")}, {fix("y", 1, "1"), fix("x", 1, "1")}, {fix("x", 9, "1"), fix("X", 10, "1")}}
	for i, f := range good {
		out = append(out, slices.Insert(slices.Clone(good), i, f), append(slices.Clone(good), f), slices.Insert(slices.Clone(good), 0, f))
		if i > 0 {
			swapped := slices.Clone(good)
			swapped[i-1], swapped[i] = swapped[i], swapped[i-1]
			out = append(out, swapped)
		}
		for _, p := range []api.Rat{{}, {Num: "1"}, {Num: "1", Den: "0"}, {Num: "2", Den: "2"}, {Num: "0", Den: "3"}, {Num: "-0", Den: "1"}, {Num: "1", Den: "-1"}, {Num: "01", Den: "1"}, {Num: "x", Den: "1"}} {
			bad := slices.Clone(good)
			bad[i].P = p
			out = append(out, bad)
		}
	}
	for _, f := range []api.Fix{fix("", 1, "1"), fix("!", -1, "1"), fix("b!", 1, "1"), fix("A", 1, "1"), fix("zzzzzzzzzzzzzzzzzzzzz", 1, "1"), fix("a", -1, "1"), fix("a", 10000, "1"), fix("x", math.MaxInt, "1"), fix("x", math.MinInt, "1"), fix("z", 10000, "1"), fix("\xff", 1, "1")} {
		more := append(sample(), f)
		slices.SortStableFunc(more, func(f, g api.Fix) int {
			if f.Asset == g.Asset && f.Day < g.Day {
				return -1
			}
			return strings.Compare(f.Asset, g.Asset)
		})
		out = append(out, more, []api.Fix{f})
	}
	backwards := sample()
	slices.Reverse(backwards)
	return append(out, backwards)
}

// notTerms answers terms that may not be: not formed, with a node that may not be, too deep, with too many nodes, and with too long a print.
func notTerms() []api.Term {
	px, one := read("px(x, 1)"), read("1")
	out := []api.Term{
		nil, {}, {{Op: api.TNeg}}, {{Op: api.TAdd}}, {{Op: api.TIf}}, slices.Concat(px, px), join(api.TAdd, px), join(api.TNeg, px, px), join(api.TMax, px, px, px), join(api.TIf, px, px), join(api.TDiv, one),
		{{Op: -1}}, {{Op: api.TOps}}, {{Op: math.MinInt}}, {{Op: math.MaxInt}}, join(13, px, px), join(-1, px, px),
		{{}}, {{Num: api.Rat{Num: "1"}}}, {{Num: api.Rat{Num: "2", Den: "2"}}}, {{Num: api.Rat{Num: "1", Den: "0"}}}, {{Num: api.Rat{Num: "-0", Den: "1"}}}, {{Num: api.Rat{Num: "1" + strings.Repeat("0", 60), Den: "1"}}},
		{{Op: api.TPx}}, {{Op: api.TPx, Asset: "X", A: 1}}, {{Op: api.TPx, Asset: "!x", A: 1}}, {{Op: api.TPx, Asset: "1x", A: 1}}, {{Op: api.TPx, Asset: "x", A: -1}}, {{Op: api.TPx, Asset: "x", A: 10000}}, {{Op: api.TPx, Asset: "x", A: 1, B: 1}}, {{Op: api.TPx, Asset: "x", A: 1, Num: one[0].Num}}, {{Op: api.TPx, Asset: "x", A: math.MaxInt}},
		append(slices.Clone(px), api.Node{Op: api.TNeg, A: 1}), append(slices.Clone(px), api.Node{Op: api.TNeg, Asset: "x"}), append(slices.Clone(px), api.Node{Op: api.TNeg, Num: one[0].Num}), {{Num: one[0].Num, Asset: "x", A: 1}}, {{Num: one[0].Num, B: 1}},
		chain(px, 150), chain(one, 150), chain(px, 1999), chain(px, 100000), slices.Repeat(px, 2000), slices.Repeat(px, 100000),
		join(api.TNeg, join(api.TAdd, balanced(api.TAdd, slices.Repeat([]api.Term{read("1")}, 1000)), one)), balanced(api.TAdd, slices.Repeat([]api.Term{read("px(zzzzzzzzzzzzzzzzzzzz, 9999)")}, 600)),
		join(api.TDiv, one, join(api.TNeg)), join(api.TDiv, one, api.Term{{}}),
	}
	for op := api.TAvg; op <= api.TLo; op++ {
		for _, days := range [][2]int{{2, 1}, {0, 60}, {1, 61}, {-1, 1}, {-1, -1}, {9990, 10000}, {10000, 10000}, {1, math.MaxInt}, {math.MinInt, 1}, {math.MinInt, math.MaxInt}, {math.MaxInt, math.MinInt}, {1, 0}} {
			out = append(out, api.Term{{Op: op, Asset: "x", A: days[0], B: days[1]}})
		}
		out = append(out, api.Term{{Op: op, A: 1, B: 2}}, api.Term{{Op: op, Asset: "!x", A: 1, B: 1}}, api.Term{{Op: op, Asset: "x", A: 1, B: 2, Num: one[0].Num}})
	}
	for _, bad := range slices.Clone(out) {
		out = append(out, join(api.TAdd, px, bad, api.Term{{Op: api.TOps}}))
	}
	return out
}

// P13.1
func TestNeeds(t *testing.T) {
	for s, want := range map[string][]api.Fix{
		"1": nil, "num(-1, 3)": nil, "-0": nil, "if(1, 2, 3) + max(4, 5) * min(6, 7) / 0": nil,
		"px(x, 5)": {need("x", 5)}, "px(x, 0)": {need("x", 0)}, "px(x, 9999)": {need("x", 9999)}, "px(cash, 7)": {need("cash", 7)}, "px(zzzzzzzzzzzzzzzzzzzz, 7)": {need("zzzzzzzzzzzzzzzzzzzz", 7)},
		"avg(x, 5, 5)": {need("x", 5)}, "hi(x, 0, 0)": {need("x", 0)}, "lo(x, 9999, 9999)": {need("x", 9999)},
		"avg(x, 5, 6)": span("x", 5, 6), "hi(x, 0, 1)": span("x", 0, 1), "lo(x, 9998, 9999)": span("x", 9998, 9999),
		"avg(x, 5, 64)": span("x", 5, 64), "hi(x, 0, 59)": span("x", 0, 59), "lo(x, 9940, 9999)": span("x", 9940, 9999),
		"-px(x, 5)": {need("x", 5)}, "-(-hi(x, 5, 6))": span("x", 5, 6),
		"px(x, 5) + px(x, 5)":                                      {need("x", 5)},
		"px(x, 5) * px(y, 5) - px(x, 5) / px(y, 5)":                {need("x", 5), need("y", 5)},
		"px(x, 5) + avg(x, 4, 6) + px(x, 5)":                       span("x", 4, 6),
		"avg(x, 4, 6) + px(x, 4) + px(x, 6) + px(x, 5)":            span("x", 4, 6),
		"avg(x, 4, 6) + hi(x, 4, 6) - lo(x, 4, 6)":                 span("x", 4, 6),
		"avg(x, 1, 4) + avg(x, 3, 7)":                              span("x", 1, 7),
		"hi(x, 3, 7) + lo(x, 1, 4)":                                span("x", 1, 7),
		"lo(x, 1, 9) + hi(x, 3, 4)":                                span("x", 1, 9),
		"avg(x, 5, 6) + avg(x, 1, 2)":                              slices.Concat(span("x", 1, 2), span("x", 5, 6)),
		"avg(x, 1, 60) + avg(x, 61, 120)":                          span("x", 1, 120),
		"px(y, 1) + px(x, 2)":                                      {need("x", 2), need("y", 1)},
		"px(x, 10) + px(x, 9) + px(x, 100)":                        {need("x", 9), need("x", 10), need("x", 100)},
		"px(x, 9999) + px(x, 0)":                                   {need("x", 0), need("x", 9999)},
		"px(xx, 1) + px(x1, 2) + px(x, 3) + px(w, 4)":              {need("w", 4), need("x", 3), need("x1", 2), need("xx", 1)},
		"lo(xx, 1, 2) + hi(x, 2, 3) + px(xx, 1) + px(x, 2)":        {need("x", 2), need("x", 3), need("xx", 1), need("xx", 2)},
		"px(b, 1) + px(ab, 1) + px(ba, 1) + px(a, 1) + px(b1, 1)":  {need("a", 1), need("ab", 1), need("b", 1), need("b1", 1), need("ba", 1)},
		"px(xy, 12) + px(x, 1) + px(xy, 1) + px(x, 12)":            {need("x", 1), need("x", 12), need("xy", 1), need("xy", 12)},
		"if(px(c, 1), px(b, 1), px(a, 1))":                         {need("a", 1), need("b", 1), need("c", 1)},
		"if(1, px(b, 1), px(a, 1)) + if(-1, px(d, 1), px(c, 1))":   {need("a", 1), need("b", 1), need("c", 1), need("d", 1)},
		"max(px(b, 1), 1) + min(2, px(a, 1))":                      {need("a", 1), need("b", 1)},
		"0 * px(x, 5) + px(y, 5) / 0":                              {need("x", 5), need("y", 5)},
		"avg(y, 2, 4) + px(x, 9) + hi(y, 3, 5) + 7 + px(x, 9)":     append(span("x", 9, 9), span("y", 2, 5)...),
		"((px(d, 4) - px(c, 3)) * (px(b, 2) / px(a, 1)))":          {need("a", 1), need("b", 2), need("c", 3), need("d", 4)},
		"px(px, 1) + avg(avg, 2, 3) + hi(if, 1, 1) + lo(hi, 1, 1)": {need("avg", 2), need("avg", 3), need("hi", 1), need("if", 1), need("px", 1)},
	} {
		needs(t, read(s), want)
		needs(t, join(api.TNeg, read(s)), want)
	}
}

// P13.1: of each op that names days, every span from day 0 on, and up to day 9999.
func TestNeedsOfSpans(t *testing.T) {
	for op := api.TAvg; op <= api.TLo; op++ {
		for length := range 60 {
			for _, a := range []int{0, 1, 77, 9940 - 1, 9999 - length} {
				needs(t, api.Term{{Op: op, Asset: "x", A: a, B: a + length}}, span("x", a, a+length))
			}
		}
	}
}

// P13.1 and P13.2: of a term that may not be nothing is needed, and it comes to nothing.
func TestWrongTerms(t *testing.T) {
	everything := slices.Concat(row("x", 0, strings.Repeat("1 ", 200)), []api.Fix{fix("zzzzzzzzzzzzzzzzzzzz", 9999, "1")})
	for _, x := range notTerms() {
		if term.Check(x) != api.ErrTerm {
			t.Fatalf("%.200v may be", x)
		}
		needs(t, x, nil)
		for _, l := range [][]api.Fix{nil, {}, sample(), everything} {
			fails(t, x, l, api.ErrTerm)
		}
	}
}

// P13.2: where the table may not be, that is told, whatever the term is.
func TestWrongTables(t *testing.T) {
	terms := []api.Term{read("1"), read("px(x, 1)"), read("px(nowhere, 1)"), read("1 / 0"), read("1 / 0 + px(nowhere, 1)"), read("avg(x, 1, 3)"), nil, {}, {{Op: api.TNeg}}, {{}}, {{Op: api.TPx, Asset: "x", A: -1}}, chain(read("1"), 150)}
	for _, l := range notTables() {
		for _, x := range terms {
			fails(t, x, l, api.ErrArg)
		}
	}
	for _, x := range notTerms() {
		fails(t, x, []api.Fix{{}}, api.ErrArg)
		fails(t, x, append(sample(), fix("x", 1, "1")), api.ErrArg)
	}
}

// P13.2: each op, alone, and the document's example.
func TestEval(t *testing.T) {
	for s, want := range map[string]string{
		"7": "7", "0": "0", "-0": "0", "1.50": "3/2", "num(-1, 3)": "-1/3", "num(4, 6)": "2/3",
		"px(x, 1)": "1", "px(x, 8)": "7/2", "px(x1, 1)": "-5", "px(x1, 2)": "0", "px(xx, 0)": "1/7", "px(a, 0)": "3", "px(a, 9999)": "6", "px(y, 7)": "100000000000000000000000000000", "px(y, 3)": "-1/2",
		"avg(x, 1, 3)": "3", "avg(x, 2, 2)": "2", "avg(x, 1, 2)": "3/2", "avg(x, 5, 8)": "61/8", "avg(x1, 1, 3)": "0", "avg(a, 0, 2)": "4/9", "avg(a, 9997, 9999)": "5", "avg(xx, 0, 3)": "5/14", "avg(y, 3, 6)": "-1/8",
		"hi(x, 1, 3)": "6", "hi(x, 5, 8)": "10", "hi(x, 6, 8)": "9", "hi(x, 8, 8)": "7/2", "hi(x1, 1, 2)": "0", "hi(x1, 1, 1)": "-5", "hi(y, 3, 6)": "1/1000", "hi(y, 3, 7)": "100000000000000000000000000000", "hi(a, 0, 2)": "3", "hi(a, 9998, 9999)": "6",
		"lo(x, 1, 3)": "1", "lo(x, 5, 8)": "7/2", "lo(x, 5, 7)": "8", "lo(x, 2, 3)": "2", "lo(x1, 1, 3)": "-5", "lo(x1, 2, 3)": "0", "lo(y, 3, 6)": "-1/2", "lo(y, 4, 6)": "-1/1000", "lo(a, 0, 2)": "-2", "lo(a, 0, 0)": "3", "lo(a, 9997, 9997)": "4",
		"-px(x, 1)": "-1", "-px(x1, 1)": "5", "-px(x1, 2)": "0", "-1.5": "-3/2", "--2": "2", "-num(-1, 3)": "1/3",
		"px(x, 1) + px(x1, 1)": "-4", "px(x, 3) + px(y, 3)": "11/2", "0.1 + 0.2": "3/10", "1 / 2 + 1 / 3": "5/6", "px(x1, 1) + 5": "0",
		"px(x, 1) - px(x, 3)": "-5", "px(x, 3) - px(x, 1)": "5", "2 - 2": "0", "1 / 2 - 1 / 3": "1/6",
		"px(x, 3) * px(y, 3)": "-3", "px(x1, 2) * px(x, 3)": "0", "num(2, 3) * 1.5": "1", "num(-2, 3) * num(-2, 3)": "4/9",
		"px(x, 3) / px(y, 3)": "-12", "1 / 3": "1/3", "0 / 5": "0", "px(x1, 2) / px(x, 1)": "0", "num(-1, 2) / num(-3, 4)": "2/3", "px(x, 1) / px(x, 3)": "1/6",
		"max(1, 2)": "2", "max(2, 1)": "2", "max(2, 2)": "2", "max(-1, -2)": "-1", "max(-2, -1)": "-1", "max(num(1, 3), 0.333)": "1/3", "max(px(x1, 1), 0)": "0", "max(0, px(x, 3))": "6",
		"min(1, 2)": "1", "min(2, 1)": "1", "min(2, 2)": "2", "min(-1, -2)": "-2", "min(-2, -1)": "-2", "min(num(1, 3), 0.333)": "333/1000", "min(px(x1, 1), 0)": "-5", "min(0, px(x, 3))": "0",
		"if(1, 5, 6)": "5", "if(0, 5, 6)": "6", "if(-1, 5, 6)": "6", "if(0.000000000000000000000000000001, 5, 6)": "5", "if(-0.000000000000000000000000000001, 5, 6)": "6", "if(num(1, 9), 5, 6)": "5", "if(num(-1, 9), 5, 6)": "6",
		"if(px(x1, 1), 5, 6)": "6", "if(px(x1, 2), 5, 6)": "6", "if(px(x1, 3), 5, 6)": "5", "if(px(y, 5), px(x, 1), px(x, 3))": "1", "if(px(y, 6), px(x, 1), px(x, 3))": "6", "if(px(y, 4), px(x, 1), px(x, 3))": "6", "if(2 - 2, 5, 6)": "6", "if(1, 0, 6)": "0", "if(0, 5, 0)": "0",
	} {
		comes(t, read(s), sample(), want)
	}
	comes(t, read("avg(x, 1, 3)"), row("x", 1, "1 2 6"), "3")
}

// P13.2: one in the other.
func TestOneInTheOther(t *testing.T) {
	for s, want := range map[string]string{
		"(px(x, 5) - 1.5) * 2":       "17",
		"px(x, 5) - 1.5 * 2":         "7",
		"10 - 3 - 2":                 "5",
		"10 - (3 - 2)":               "9",
		"12 / 3 / 2":                 "2",
		"12 / (3 / 2)":               "8",
		"-(px(x, 1) - px(x, 3)) / 2": "5/2",
		"max((px(x, 6) - 50), 0)":    "0",
		"max(px(x, 6) - 5, 0)":       "4",
		"max(min(px(x, 1), px(x, 2)), min(px(x, 3), px(x, 5)))":            "6",
		"min(max(px(x, 1), px(x, 2)), max(px(x, 3), px(x, 5)))":            "2",
		"if(if(0, 1, 2), if(1, 3, 4), if(1, 5, 6))":                        "3",
		"if(if(0, 1, -2), if(1, 3, 4), if(0, 5, 6))":                       "6",
		"if(px(x, 1) - px(x, 2), hi(x, 1, 3), lo(x, 5, 8))":                "7/2",
		"if(px(x, 2) - px(x, 1), hi(x, 1, 3), lo(x, 5, 8))":                "6",
		"avg(x, 1, 3) + hi(x, 1, 3) * lo(x, 1, 3) - px(x, 1) / px(x, 2)":   "17/2",
		"px(x, 1) + px(x, 1) + avg(x, 1, 1) + hi(x, 1, 3) + lo(x, 1, 3)":   "10",
		"px(x, 1) / 3 + px(x, 1) / 3 + px(x, 1) / 3":                       "1",
		"(px(x, 2) + 3 * px(x, 2)) / (avg(x, 1, 2) + 0.5)":                 "4",
		"if(max(px(x1, 1), px(x1, 2)), 1, min(px(x1, 1), px(x1, 3)))":      "-5",
		"px(x, 1) * px(x, 2) * px(x, 3) - px(y, 3) * (px(xx, 0) - 1)":      "81/7",
		"1 / (1 + 1 / (1 + 1 / (1 + 1 / 2)))":                              "5/8",
		"px(y, 7) + 1 - px(y, 7)":                                          "1",
		"(px(y, 7) + 1) * (px(y, 7) - 1) - px(y, 7) * px(y, 7)":            "-1",
		"if(0, px(x, 1) / px(x, 2), px(x, 2) / px(x, 1)) - (-hi(a, 0, 1))": "5",
	} {
		comes(t, read(s), sample(), want)
		check(t, read(s), sample())
	}
}

// P13.2: each op in each other one, at each place, by numbers below 0, that are 0, and above.
func TestOpsInOps(t *testing.T) {
	l := slices.Concat(row("x", 1, "7 -3 0 1/2"), row("y", 1, "0 2 -2/3 5"))
	leaves := []api.Term{read("num(-2, 3)"), read("px(x, 1)"), read("avg(y, 1, 3)"), read("hi(x, 2, 4)"), read("lo(y, 2, 4)"), read("px(x, 3)")}
	var parts []api.Term
	for op := api.TNeg; op < api.TOps; op++ {
		for shift := range leaves {
			var l []api.Term
			for k := range term.Arity(op) {
				l = append(l, leaves[(shift+k*(1+shift%2))%len(leaves)])
			}
			parts = append(parts, join(op, l...))
		}
	}
	parts = append(parts, leaves...)
	errors := map[api.Errno]int{}
	for op := api.TNeg; op < api.TOps; op++ {
		for i, part := range parts {
			for place := range term.Arity(op) {
				l2 := []api.Term{leaves[i%6], leaves[(i+place+1)%6], leaves[(i+2)%6]}[:term.Arity(op)]
				l2[place] = part
				_, err := check(t, join(op, l2...), l)
				errors[err]++
			}
		}
	}
	if errors[api.OK] < 500 || errors[api.ErrEvalZero] < 20 {
		t.Errorf("%v", errors)
	}
}

// shapes answers rows of so many prices: that rise, fall, are the same, are 0, are below 0, and go to and fro.
func shapes(length int) []string {
	rows := make([][]string, 9)
	for i := range length {
		for k, p := range []string{
			strconv.Itoa(i + 1), strconv.Itoa(length - i), "7/3", "0", strconv.Itoa(-i - 1), strconv.Itoa(i - length),
			strconv.Itoa(i*i*17%61-30) + "/" + strconv.Itoa(1+i*7%5), "1/" + strconv.Itoa(i+2), "-5/2",
		} {
			rows[k] = append(rows[k], p)
		}
	}
	var out []string
	for _, l := range rows {
		out = append(out, strings.Join(l, " "))
	}
	return out
}

// P13.2: of one day, of two, of some, and of sixty, on the first and on the last days.
func TestSpans(t *testing.T) {
	for _, length := range []int{1, 2, 3, 4, 7, 31, 59, 60} {
		for _, from := range []int{0, 1, 500, 10000 - length} {
			for _, prices := range shapes(length) {
				l := row("x", from, prices)
				for op := api.TAvg; op <= api.TLo; op++ {
					x := api.Term{{Op: op, Asset: "x", A: from, B: from + length - 1}}
					if _, err := check(t, x, l); err != api.OK {
						t.Errorf("%v: %d", x, err)
					}
					check(t, x, slices.Concat(row("w", from, prices), l, row("x0", from, prices)))
				}
			}
		}
	}
	for _, c := range []struct{ prices, average, highest, lowest string }{
		{"5", "5", "5", "5"}, {"-5", "-5", "-5", "-5"}, {"0", "0", "0", "0"}, {"1 2", "3/2", "2", "1"}, {"2 1", "3/2", "2", "1"}, {"0 0 0", "0", "0", "0"}, {"4 4 4 4", "4", "4", "4"},
		{"9 7 5 1", "11/2", "9", "1"}, {"1 5 7 9", "11/2", "9", "1"}, {"-1 -2 -3", "-2", "-1", "-3"}, {"-3 -2 -1", "-2", "-1", "-3"}, {"0 -1", "-1/2", "0", "-1"}, {"-1 1", "0", "1", "-1"}, {"10 9 100", "119/3", "100", "9"}, {"-10 -9 -100", "-119/3", "-9", "-100"},
		{"1/2 1/3 1/4", "13/36", "1/2", "1/4"}, {"1 9 1", "11/3", "9", "1"}, {"9 1 9", "19/3", "9", "1"}, {"1/3 0.333333333333333333", "1999999999999999999/6000000000000000000", "1/3", "0.333333333333333333"},
	} {
		l := row("x", 3, c.prices)
		last := strconv.Itoa(2 + len(l))
		comes(t, read("avg(x, 3, "+last+")"), l, c.average)
		comes(t, read("hi(x, 3, "+last+")"), l, c.highest)
		comes(t, read("lo(x, 3, "+last+")"), l, c.lowest)
	}
}

// P13.2: the highest and the lowest price, at each place among sixty; and the average counts each one.
func TestEachPlaceInASpan(t *testing.T) {
	for i := range 60 {
		for _, p := range []string{"1000", "-1000", "5"} {
			l := row("x", 100, strings.Repeat("5 ", 60))
			l[i].P = of(figured(p))
			for op := api.TAvg; op <= api.TLo; op++ {
				check(t, api.Term{{Op: op, Asset: "x", A: 100, B: 159}}, l)
				check(t, api.Term{{Op: op, Asset: "x", A: 100 + i/2, B: 100 + i}}, l)
			}
		}
	}
}

// P13.2: where one of the needs lacks, be it the first, the last, or one within a span.
func TestMissingPrices(t *testing.T) {
	for _, s := range []string{
		"px(x, 5)", "px(x, 0)", "px(x, 9999)", "avg(x, 3, 62)", "hi(x, 0, 59)", "lo(x, 9940, 9999)", "avg(x, 4, 4)", "hi(x, 4, 5)", "lo(x, 4, 5)", "-px(x, 5)", "px(x, 5) + px(y, 5)", "px(y, 5) - px(x, 5)", "px(x, 5) * px(xx, 5)", "px(x, 5) / px(x, 6)", "max(px(x, 5), px(x, 6))", "min(px(x, 5), px(x, 6))",
		"if(px(x, 1), px(x, 2), px(x, 3))", "if(-1, px(x, 2), px(x, 3))", "if(1, px(x, 2), px(x, 3))", "if(1, 2, 3 + hi(x, 1, 3))", "0 * px(x, 5)", "px(x, 1) + avg(y, 2, 9) * (hi(z, 0, 3) - lo(x, 1, 4)) + px(xx, 9999)",
		"1 / 0 + px(x, 5)", "px(x, 5) + 1 / 0", "px(x, 5) / 0", "0 / (px(x, 5) - px(x, 5))", "1 / (px(x, 5) - px(y, 5))", "if(1 / 0, px(x, 5), 1)", "if(1, 1 / 0, px(x, 5))", "1 / (1 / 0) + avg(x, 5, 6)", "1 / px(x, 5)",
	} {
		x := read(s)
		all := wanted(x)
		for i := range all {
			all[i].P = of(big.NewRat(int64(i+1), 1))
		}
		_, complete := check(t, x, all)
		if complete == api.ErrEvalNone {
			t.Errorf("%s lacks nothing", s)
		}
		fails(t, x, nil, api.ErrEvalNone)
		for i, f := range all {
			// What stands beside it is not it.
			beside := []api.Fix{fix("!"+f.Asset, f.Day, "1"), fix("0", f.Day, "1"), fix(f.Asset+"0", f.Day, "1"), fix("zz", f.Day, "1")}
			less := without(all, f)
			fails(t, x, less, api.ErrEvalNone)
			fails(t, x, sorted(less, beside), api.ErrEvalNone)
			fails(t, x, all[:i], api.ErrEvalNone)
			fails(t, x, sorted(all[:i], beside), api.ErrEvalNone)
			if i+1 < len(all) {
				fails(t, x, all[i+1:], api.ErrEvalNone)
				fails(t, x, without(less, all[i+1]), api.ErrEvalNone)
			}
		}
	}
	l := sample()
	for _, s := range []string{"px(x, 4)", "px(x, 0)", "px(x, 9)", "px(x, 9999)", "px(z, 1)", "px(w, 1)", "px(b, 1)", "px(xxx, 1)", "px(y, 2)", "avg(x, 1, 4)", "avg(x, 3, 5)", "avg(x, 0, 1)", "hi(x, 4, 5)", "hi(x, 8, 9)", "lo(x, 4, 4)", "lo(x, 1, 8)", "hi(a, 9996, 9999)", "lo(a, 0, 3)", "avg(a, 1, 60)", "hi(y, 3, 8)", "avg(xx, 3, 4)", "px(x, 1) + px(x, 4)", "avg(x, 1, 3) + px(x, 4)"} {
		fails(t, read(s), l, api.ErrEvalNone)
	}
}

// P13.2: a day that lacks within a span, of which another asset's stands at its place, or a later one.
func TestGapsInSpans(t *testing.T) {
	for op := api.TAvg; op <= api.TLo; op++ {
		for length := 2; length <= 60; length += 29 {
			full := row("x", 10, strings.Repeat("3 ", length))
			x := api.Term{{Op: op, Asset: "x", A: 10, B: 9 + length}}
			comes(t, x, full, "3")
			for _, f := range full {
				gap := without(full, f)
				fails(t, x, gap, api.ErrEvalNone)
				fails(t, x, sorted(gap, []api.Fix{fix("x", 10+length, "3")}), api.ErrEvalNone)
				fails(t, x, sorted(gap, []api.Fix{fix("x", 9, "3")}), api.ErrEvalNone)
				fails(t, x, sorted(gap, row("x0", 10, strings.Repeat("3 ", length))), api.ErrEvalNone)
				fails(t, x, sorted(gap, row("w", 10, strings.Repeat("3 ", length))), api.ErrEvalNone)
			}
		}
	}
}

// P13.2: something is divided by 0, wherever it stands.
func TestDivisionByZero(t *testing.T) {
	for _, s := range []string{
		"1 / 0", "0 / 0", "-1 / 0", "1 / -0", "px(x, 1) / 0", "px(x, 1) / px(x1, 2)", "px(x1, 2) / px(x1, 2)", "1 / (px(x, 1) - 1)", "1 / (px(x, 1) - px(x, 1))", "px(x, 1) / (px(x, 5) - 10)", "1 / avg(x1, 1, 3)", "1 / hi(x1, 1, 2)", "1 / lo(x1, 2, 3)", "1 / hi(y, 4, 4)", "1 / (0 * px(x, 1))", "1 / -px(x1, 2)", "1 / (px(x1, 1) + 5)", "1 / (0 / 5)", "1 / max(-1, 0)", "1 / min(1, 0)", "1 / if(1, 0, 1)", "1 / if(0, 1, 0)", "1 / (num(1, 3) + num(-1, 3))",
		"if(1, 2, 1 / 0)", "if(0, 1 / 0, 2)", "if(-1, 1 / 0, 2)", "if(1, 1 / 0, 2)", "if(0, 2, 1 / 0)", "if(1 / 0, 2, 3)", "if(0 / 0, 2, 3)", "if(1 / 0, 1 / 0, 1 / 0)", "if(1, 2, 1 / (px(x, 1) - 1))", "if(1, 2, if(1, 2, if(0, 1 / 0, 3)))", "if(if(1, 2, 3 / 0), 4, 5)",
		"avg(x, 1, 3) + 1 / 0", "1 / 0 + avg(x, 1, 3)", "avg(x, 1, 3) / 0", "hi(x, 1, 3) - 1 / 0", "lo(x, 1, 3) * (1 / 0)", "avg(x, 1, 3) * (1 / px(x1, 2))",
		"1 / (1 / 0)", "0 / (1 / 0)", "1 / (1 / (1 / 0))", "1 / (0 * (1 / 0))", "1 / (1 / 0 - 1 / 0)", "1 / (1 + 1 / 0)", "1 / if(1, 1, 1 / 0)", "1 / max(1, 1 / 0)", "(1 / 0) / 0", "(1 / 0) / 1", "(1 / 0) / (1 / 0)", "1 / -(1 / 0)",
		"0 * (1 / 0)", "(1 / 0) * 0", "max(1, 1 / 0)", "max(1 / 0, 1)", "min(1, 1 / 0)", "min(1 / 0, 1)", "1 / 0 - 1 / 0", "-(1 / 0)", "--(0 / 0)", "1 / 2 + 1 / 0 + 1 / 3", "1 / 0 / 0 / 0",
	} {
		fails(t, read(s), sample(), api.ErrEvalZero)
		check(t, read(s), sample())
		for _, ahead := range []string{"1 + max(2, ", "0 * min(2, ", "2 / max(2, ", "if(1, 2, ", "if(0, 2, ", "px(x, 1) - if(1, 2, "} {
			fails(t, read(ahead+s+")"), sample(), api.ErrEvalZero)
			fails(t, read("px(x, 4) + "+ahead+s+")"), sample(), api.ErrEvalNone)
		}
		fails(t, read("("+s+") + px(nowhere, 1)"), sample(), api.ErrEvalNone)
		fails(t, read("px(x, 9) * ("+s+")"), sample(), api.ErrEvalNone)
	}
	for s, want := range map[string]string{"0 / 1": "0", "1 / (px(x, 1) - 2)": "-1", "1 / num(1, 999999999999999999999999999999)": "999999999999999999999999999999", "1 / px(y, 6)": "-1000", "if(0, 1 / 1, 2)": "2", "1 / (px(y, 7) + 1 - px(y, 7))": "1"} {
		comes(t, read(s), sample(), want)
	}
}

// P13.2: of several errors the one that is named first.
func TestOrderOfErrors(t *testing.T) {
	bad, none, zero, good := api.Term{{Op: api.TPx, Asset: "x"}, {Op: api.TOps}}, read("1 / 0 + px(x, 9)"), read("1 / (px(x, 1) - 1)"), read("px(x, 1)")
	wrong, right := append(sample(), fix("a", 0, "1")), sample()
	for _, c := range []struct {
		x    api.Term
		l    []api.Fix
		want api.Errno
	}{
		{bad, wrong, api.ErrArg}, {none, wrong, api.ErrArg}, {zero, wrong, api.ErrArg}, {good, wrong, api.ErrArg}, {nil, wrong, api.ErrArg},
		{bad, right, api.ErrTerm}, {join(api.TAdd, none, bad), right, api.ErrTerm}, {slices.Concat(zero, zero), right, api.ErrTerm}, {slices.Concat(none, none), nil, api.ErrTerm}, {nil, nil, api.ErrTerm},
		{none, right, api.ErrEvalNone}, {none, nil, api.ErrEvalNone}, {zero, nil, api.ErrEvalNone}, {join(api.TDiv, none, zero), right, api.ErrEvalNone}, {join(api.TDiv, zero, none), right, api.ErrEvalNone},
		{zero, right, api.ErrEvalZero}, {join(api.TMul, good, zero), right, api.ErrEvalZero},
	} {
		fails(t, c.x, c.l, c.want)
	}
	comes(t, good, right, "1")
	if api.ErrArg != 1 || api.ErrTerm != 100 || api.ErrEvalNone != 130 || api.ErrEvalZero != 131 {
		t.Error("the document's errors")
	}
}

// P13.2, R5: a term that needs nothing comes to the same by any table, be it empty or none.
func TestWithoutNeeds(t *testing.T) {
	for _, l := range [][]api.Fix{nil, {}, make([]api.Fix, 0, 5), sample()[:0], sample()} {
		comes(t, read("1.5"), l, "3/2")
		comes(t, read("if(2 - 2, 1, max(3, 4) * min(5, 6)) / 3 - 1"), l, "17/3")
		fails(t, read("1 / 0"), l, api.ErrEvalZero)
		fails(t, api.Term{}, l, api.ErrTerm)
		fails(t, nil, l, api.ErrTerm)
		fails(t, read("px(nowhere, 0)"), l, api.ErrEvalNone)
		fails(t, read("avg(nowhere, 0, 59)"), l, api.ErrEvalNone)
	}
	if len(eval.Needs(nil)) != 0 || len(eval.Needs(api.Term{})) != 0 {
		t.Error("Needs of no term")
	}
}

// P13.3: what is not needed changes nothing, wherever it stands; nor is it asked for.
func TestFixesThatAreNotNeeded(t *testing.T) {
	for _, s := range []string{
		"1", "1 / 0", "px(x, 5)", "px(x, 0) + px(x, 9999)", "avg(x, 3, 62)", "hi(x, 100, 101)", "lo(x, 100, 100)", "px(x, 1) / (px(x, 1) - px(x, 1))", "if(px(x, 5) - 3, avg(y, 1, 4), hi(xx, 1, 2) / 0)", "if(px(x, 5) - 3, avg(y, 1, 4), hi(xx, 1, 2) / 7)", "px(x, 10) * px(xx, 3) - lo(x, 9, 11) / avg(y, 0, 4)",
	} {
		x := read(s)
		least := wanted(x)
		for i := range least {
			least[i].P = of(big.NewRat(int64(i*i%7-2), int64(1+i%3)))
		}
		want, wantErr := check(t, x, least)
		var others []api.Fix
		for _, asset := range []string{"!x", "0", "a", "w", "x", "x0", "xx", "xxx", "y", "yy", "z"} {
			for _, day := range []int{0, 1, 2, 3, 4, 5, 6, 8, 9, 10, 11, 12, 62, 63, 99, 100, 101, 102, 9998, 9999} {
				if f := fix(asset, day, "-777/13"); len(without(least, f)) == len(least) {
					others = append(others, f)
				}
			}
		}
		for _, f := range others {
			if got, err := told(t, x, sorted(least, []api.Fix{f})); got != want || err != wantErr {
				t.Errorf("%s with %v: %v, %d", s, f, got, err)
			}
		}
		for _, more := range [][]api.Fix{others, others[:len(others)/2], others[len(others)/2:]} {
			if got, err := told(t, x, sorted(least, more)); got != want || err != wantErr {
				t.Errorf("%s with %v: %v, %d", s, more, got, err)
			}
		}
	}
}

// P13.3: two tables that have the same of what is needed, and unlike others, or what lacks.
func TestTablesThatHaveTheSame(t *testing.T) {
	r := rand.New(rand.NewSource(133))
	for range 400 {
		x := grown(r, 1+r.Intn(5))
		one, other := table(r), table(r)
		for _, f := range eval.Needs(x) {
			one, other = without(one, f), without(other, f)
			if r.Intn(60) > 0 {
				f.P = price(r)
				one, other = append(one, f), append(other, f)
			}
		}
		got, err := check(t, x, sorted(one))
		again, errAgain := check(t, x, sorted(other))
		if got != again || err != errAgain {
			t.Fatalf("%s: %v, %d, and %v, %d", term.Print(x), got, err, again, errAgain)
		}
	}
}

// price answers a random price, of few, so that some are the same, and many differences are 0.
func price(r *rand.Rand) api.Rat {
	return of(big.NewRat(int64(r.Intn(7)-3), int64(1+r.Intn(3))))
}

// names are the assets that random terms name: one the begin of others.
func names() []string {
	return []string{"x", "x1", "xx", "y", "a"}
}

// table answers a random table of the days from 0 to 14, of which few lack.
func table(r *rand.Rand) []api.Fix {
	var out []api.Fix
	holes := 1 + r.Intn(60)
	for _, asset := range names() {
		for day := range 15 {
			if r.Intn(holes) > 0 || holes > 40 {
				out = append(out, api.Fix{Asset: asset, Day: day, P: price(r)})
			}
		}
	}
	return sorted(out)
}

// leaf answers a random node of arity 0 that may be.
func leaf(r *rand.Rand) api.Term {
	asset, a := names()[r.Intn(5)], r.Intn(15)
	switch op := r.Intn(8); op {
	case api.TPx, 6, 7:
		return api.Term{{Op: api.TPx, Asset: asset, A: a}}
	case api.TAvg, api.THi, api.TLo:
		return api.Term{{Op: op, Asset: asset, A: a, B: a + r.Intn(15-a)}}
	}
	return api.Term{{Num: price(r)}}
}

// grown answers a random term that may be, of at most so many levels.
func grown(r *rand.Rand, levels int) api.Term {
	if levels == 1 || r.Intn(6) == 0 {
		return leaf(r)
	}
	op := api.TNeg + r.Intn(api.TOps-api.TNeg)
	var l []api.Term
	for range term.Arity(op) {
		l = append(l, grown(r, levels-1))
	}
	return join(op, l...)
}

// P13.1 to P13.3: random terms by random tables.
func TestRandomTerms(t *testing.T) {
	r := rand.New(rand.NewSource(13))
	many := map[api.Errno]int{}
	for range 6000 {
		_, err := check(t, grown(r, 1+r.Intn(6)), table(r))
		many[err]++
	}
	if many[api.OK] < 1000 || many[api.ErrEvalNone] < 500 || many[api.ErrEvalZero] < 200 {
		t.Errorf("%v", many)
	}
}

// sized answers a sum of prices on day 1 that may be but for its size, of which the print has so many bytes, from 40 on: of assets of the letter q alone.
func sized(bytes int) api.Term {
	asset := func(length int) api.Term {
		return api.Term{{Op: api.TPx, Asset: strings.Repeat("q", length), A: 1}}
	}
	var leaves []api.Term
	// Beside its name, a leaf has 7 bytes, and comes with 5 that join it, but for the first one.
	left := bytes + 5
	for ; left > 64; left -= 32 {
		leaves = append(leaves, asset(20))
	}
	return balanced(api.TAdd, append(leaves, asset(left/2-12), asset(left-left/2-12)))
}

// P13.1 and P13.2: of as many nodes, as many levels, and as long a print as may be, and of one more.
func TestGreatTerms(t *testing.T) {
	l := row("y", 0, "5")
	x := read("px(y, 0)")
	comes(t, chain(x, 149), l, "-5")
	comes(t, chain(x, 148), l, "5")
	needs(t, chain(x, 149), []api.Fix{need("y", 0)})
	fails(t, chain(x, 149), nil, api.ErrEvalNone)
	fails(t, join(api.TNeg, chain(read("1 / (2 - 2)"), 145)), l, api.ErrEvalZero)
	fails(t, chain(x, 150), l, api.ErrTerm)
	needs(t, chain(x, 150), nil)
	left, right := x, x
	for range 149 {
		left, right = join(api.TSub, left, x), join(api.TSub, x, right)
	}
	comes(t, left, l, "-740")
	comes(t, right, l, "0")
	fails(t, join(api.TSub, left, x), l, api.ErrTerm)
	fails(t, join(api.TSub, x, right), l, api.ErrTerm)
	// 1000 leaves are joined by 999 nodes, and have a sign ahead.
	leaves := slices.Repeat([]api.Term{x}, 1000)
	most := join(api.TNeg, balanced(api.TAdd, leaves))
	if len(most) != 2000 {
		t.Fatalf("%d nodes", len(most))
	}
	comes(t, most, l, "-5000")
	needs(t, most, []api.Fix{need("y", 0)})
	comes(t, balanced(api.TMul, leaves), l, new(big.Int).Exp(big.NewInt(5), big.NewInt(1000), nil).String())
	fails(t, join(api.TNeg, most), l, api.ErrTerm)
	needs(t, join(api.TNeg, most), nil)
	var q []api.Fix
	for length := 1; length <= 20; length++ {
		q = append(q, fix(strings.Repeat("q", length), 1, "1"))
	}
	for bytes := 19995; bytes <= 20005; bytes++ {
		x := sized(bytes)
		if bytes > 20000 {
			fails(t, x, q, api.ErrTerm)
			needs(t, x, nil)
			continue
		}
		if len(term.Print(x)) != bytes {
			t.Fatalf("%d bytes, not %d", len(term.Print(x)), bytes)
		}
		comes(t, x, q, strconv.Itoa((len(x)+1)/2))
		needs(t, x, wanted(x))
	}
}

// P1: a term of very many needs, by a table of very many fixes, comes to an end.
func TestManyPrices(t *testing.T) {
	var l []api.Fix
	for _, asset := range []string{"a", "b", "c", "d", "e", "f"} {
		for day := range 10000 {
			l = append(l, fix(asset, day, strconv.Itoa(day)+"/100"))
		}
	}
	var leaves []api.Term
	want := new(big.Rat)
	for i := range 860 {
		a := i / 6 * 60
		leaves = append(leaves, api.Term{{Op: api.TAvg, Asset: string("abcdef"[i%6]), A: a, B: a + 59}})
		want.Add(want, big.NewRat(int64(2*a+59), 200))
	}
	x := balanced(api.TAdd, leaves)
	comes(t, x, l, want.String())
	got := eval.Needs(x)
	if len(got) != 860*60 || !slices.IsSortedFunc(got, compare) || got[0] != need("a", 0) || got[len(got)-1] != need("f", 142*60+59) {
		t.Errorf("%d needs", len(got))
	}
	fails(t, x, without(l, need("c", 4321)), api.ErrEvalNone)
	fails(t, x, without(l, need("a", 0)), api.ErrEvalNone)
	fails(t, x, append(l[:len(l):len(l)], fix("f", 9999, "1")), api.ErrArg)
}

// P13.2 and P2: all is exact, whatever the size.
func TestLongPrices(t *testing.T) {
	nines := strings.Repeat("9", 3000)
	l := []api.Fix{fix("x", 1, nines), fix("x", 2, "1/"+nines), fix("x", 3, "-"+nines), fix("x", 4, nines+"8/7")}
	for _, s := range []string{"px(x, 1) * px(x, 1)", "px(x, 1) + px(x, 2)", "avg(x, 1, 4)", "hi(x, 1, 4)", "lo(x, 1, 4)", "px(x, 1) * px(x, 2)", "px(x, 1) / px(x, 2) - px(x, 4)", "px(x, 1) + px(x, 3)", "1 / (px(x, 1) + px(x, 3))", "if(px(x, 2), px(x, 1), px(x, 3))", "if(-px(x, 2), px(x, 1), px(x, 3))", "max(px(x, 1), px(x, 4))", "min(px(x, 1), px(x, 4))"} {
		check(t, read(s), l)
	}
}

// R4: an answer may be written into without an argument, or another answer, changing; nor is written into the room behind an argument.
func TestNothingIsShared(t *testing.T) {
	x, l := read("px(y, 3) + avg(x, 1, 3) + px(x, 2) * px(a, 9998)"), sample()
	roomy, table := append(make(api.Term, 0, 50), x...), append(make([]api.Fix, 0, 100), l...)
	want := wanted(x)
	for range 3 {
		got := eval.Needs(roomy)
		other := eval.Needs(roomy)
		if !slices.Equal(got, want) || !slices.Equal(other, want) {
			t.Fatalf("Needs: %v, and %v", got, other)
		}
		for i := range got {
			got[i] = api.Fix{Asset: "?", Day: -1}
		}
		got = append(got, api.Fix{}, api.Fix{})
		comes(t, roomy, table, "25/2")
		if !slices.Equal(roomy, x) || !slices.Equal(table, l) || !slices.Equal(other, want) {
			t.Fatalf("%v, %v, %v have changed with %v", roomy, table, other, got)
		}
	}
	for _, n := range roomy[:cap(roomy)][len(x):] {
		if n != (api.Node{}) {
			t.Fatalf("%v was written behind the term", n)
		}
	}
	for _, f := range table[:cap(table)][len(l):] {
		if f != (api.Fix{}) {
			t.Fatalf("%v was written behind the table", f)
		}
	}
	answer := eval.Needs(roomy)
	clear(roomy)
	if !slices.Equal(answer, want) {
		t.Error("Needs shares the term")
	}
}

// R3: what was asked before is not kept.
func TestAnswersAgain(t *testing.T) {
	x := read("px(x, 1) / px(x, 2)")
	for range 3 {
		comes(t, x, row("x", 1, "1 2"), "1/2")
		comes(t, x, row("x", 1, "2 1"), "2")
		fails(t, x, row("x", 1, "2 0"), api.ErrEvalZero)
		fails(t, x, row("x", 1, "2"), api.ErrEvalNone)
		fails(t, nil, row("x", 1, "2 1"), api.ErrTerm)
		fails(t, x, []api.Fix{{}}, api.ErrArg)
		needs(t, x, span("x", 1, 2))
		needs(t, read("px(x, 2)"), span("x", 2, 2))
		needs(t, nil, nil)
	}
}
