package neutral_test

import (
	"math/big"
	"math/rand"
	"slices"
	"strconv"
	"strings"
	"testing"

	"debenture/action"
	"debenture/api"
	"debenture/fixing"
	"debenture/neutral"
	"debenture/pack"
)

// at is an asset, on a day.
type at struct {
	asset string
	day   int
}

// priced answers a table's prices, to be reckoned with.
func priced(l []api.Fix) map[at]*big.Rat {
	m := map[at]*big.Rat{}
	for _, f := range l {
		m[at{f.Asset, f.Day}] = read(f.P)
	}
	return m
}

// tabled answers the table of prices.
func tabled(m map[at]*big.Rat) []api.Fix {
	var l []api.Fix
	for k, p := range m {
		l = append(l, api.Fix{Asset: k.asset, Day: k.day, P: of(p)})
	}
	slices.SortFunc(l, compare)
	return l
}

// worth answers by a second reading what one share was worth on a day without a, and nothing if a price is missing.
func worth(m map[at]*big.Rat, a api.Action, day int) *big.Rat {
	own, other := m[at{a.Asset, day}], m[at{a.Other, day}]
	sum := new(big.Rat)
	if a.Kind != api.ActMerger {
		if own == nil {
			return nil
		}
		sum.Set(own)
	}
	ratio := read(a.Ratio)
	switch a.Kind {
	case api.ActSplit:
		return sum.Mul(sum, ratio)
	case api.ActStock:
		return sum.Add(sum, ratio.Mul(ratio, own))
	case api.ActCash:
		return sum.Add(sum, read(a.Cash))
	}
	if other == nil {
		return nil
	}
	return sum.Add(sum, ratio.Mul(ratio, other)).Add(sum, read(a.Cash))
}

// second answers by a second reading the table without those actions, all of which may be.
func second(l []api.Fix, done ...api.Action) []api.Fix {
	if len(done) == 0 {
		return slices.Clone(l)
	}
	before := priced(second(l, done[1:]...))
	a := done[0]
	after := map[at]*big.Rat{}
	for k, p := range before {
		if k.asset != a.Asset || k.day < a.Ex {
			after[k] = p
		}
		if k.day < a.Ex {
			continue
		}
		if w := worth(before, a, k.day); w != nil {
			after[at{a.Asset, k.day}] = w
		}
	}
	return tabled(after)
}

// assets are those of random tables, in order; actions are about those that begin with a letter.
var assets = []string{"!", "0", "a", "aa", "b", "cash", "x", "x1", "xx", "y"}

// shares are those that actions may be about: one that no table has, too.
var shares = []string{"a", "aa", "b", "x", "x1", "xx", "y", "none"}

// days are those of random tables and actions.
var days = []int{0, 1, 4, 5, 6, 9998, 9999}

// number answers a random number above 0.
func number(r *rand.Rand) *big.Rat {
	most := []int64{3, 12, 1000, 1 << 62}[r.Intn(4)]
	return big.NewRat(1+r.Int63n(most), 1+r.Int63n(most))
}

// price answers a random price: above 0, 0 or below.
func price(r *rand.Rand) *big.Rat {
	x := number(r)
	switch r.Intn(6) {
	case 0:
		x.SetInt64(0)
	case 1:
		x.Neg(x)
	}
	return x
}

// randomTable answers a random table, with a share of the prices of those days.
func randomTable(r *rand.Rand) []api.Fix {
	var l []api.Fix
	share := r.Intn(9)
	for _, asset := range assets {
		for _, day := range days {
			if r.Intn(8) < share {
				l = append(l, api.Fix{Asset: asset, Day: day, P: of(price(r))})
			}
		}
	}
	return l
}

// randomAction answers a random action that may be, about the first ones of the shares.
func randomAction(r *rand.Rand, about []string) api.Action {
	a := api.Action{Name: "n", Kind: r.Intn(api.Acts), Asset: about[r.Intn(len(about))], Ratio: num("0"), Cash: num("0")}
	a.Ex = days[r.Intn(len(days))]
	if r.Intn(4) == 0 {
		a.Ex = r.Intn(10000)
	}
	a.Record = a.Ex + r.Intn(10000-a.Ex)
	a.Pay = a.Record + r.Intn(10000-a.Record)
	if a.Kind != api.ActCash {
		a.Ratio = of(number(r))
	}
	if a.Kind == api.ActCash || a.Kind == api.ActMerger && r.Intn(3) > 0 {
		a.Cash = of(number(r))
	}
	if a.Kind == api.ActSpin || a.Kind == api.ActMerger {
		a.Other = a.Asset
		for a.Other == a.Asset {
			a.Other = about[r.Intn(len(about))]
		}
	}
	return a
}

// P17.1: random actions, against a second reading.
func TestRandomOne(t *testing.T) {
	r := rand.New(rand.NewSource(171))
	changed := map[int]int{}
	for range 3000 {
		l, a := randomTable(r), randomAction(r, shares)
		want := second(l, a)
		checkOne(t, l, a, want)
		if !slices.Equal(l, want) {
			changed[a.Kind]++
		}
	}
	for kind := range api.Acts {
		if changed[kind] < 100 {
			t.Errorf("%v", changed)
		}
	}
}

// P17.2: rows of random actions, on few assets and on many, against a second reading.
func TestRandomAll(t *testing.T) {
	r := rand.New(rand.NewSource(172))
	turned := 0
	for range 3000 {
		l := randomTable(r)
		about := shares[:2+r.Intn(len(shares)-1)]
		if r.Intn(2) == 0 {
			about = []string{"x", "y"}
		}
		var done []api.Action
		for range r.Intn(7) {
			done = append(done, randomAction(r, about))
		}
		want := second(l, done...)
		checkAll(t, l, done, want)
		back := slices.Clone(done)
		slices.Reverse(back)
		wantBack := second(l, back...)
		checkAll(t, l, back, wantBack)
		if !slices.Equal(want, wantBack) {
			turned++
		}
	}
	if turned < 500 {
		t.Errorf("%d", turned)
	}
}

// P17.2: All is One of All of the others and the first one, as the chapter has it.
func TestAllByOne(t *testing.T) {
	r := rand.New(rand.NewSource(173))
	for range 1000 {
		l := randomTable(r)
		var done []api.Action
		for range 1 + r.Intn(5) {
			done = append(done, randomAction(r, shares))
		}
		checkAll(t, l, done, neutral.One(neutral.All(l, done[1:]), done[0]))
		rest := slices.Clone(l)
		for i := len(done) - 1; i >= 0; i-- {
			rest = neutral.One(rest, done[i])
		}
		checkAll(t, l, done, rest)
	}
}

// P17.1: on every day, those ahead of Ex too, the price is what the layers below answer.
func TestEveryDay(t *testing.T) {
	r := rand.New(rand.NewSource(174))
	for range 6 {
		l, a := randomTable(r), randomAction(r, []string{"a", "x", "y"})
		m, p := neutral.One(l, a), pack.Of(a)
		for day := range 10000 {
			want, is := fixing.Get(l, a.Asset, day)
			if day >= a.Ex {
				want, is = pack.Value(p, l, day)
			}
			if got, there := fixing.Get(m, a.Asset, day); got != want || there != is {
				t.Fatalf("%s of %s on day %d: %v, %t, not %v, %t", action.Print(a), told(l), day, got, there, want, is)
			}
		}
	}
}

// P17.3: ahead of Ex, and of other assets, nothing changes, and nothing comes to be.
func TestTheRestStays(t *testing.T) {
	r := rand.New(rand.NewSource(175))
	for range 2000 {
		l := randomTable(r)
		var done []api.Action
		for range 1 + r.Intn(4) {
			done = append(done, randomAction(r, shares))
		}
		rest := func(l []api.Fix) []api.Fix {
			return slices.DeleteFunc(slices.Clone(l), func(f api.Fix) bool {
				return slices.ContainsFunc(done, func(a api.Action) bool { return a.Asset == f.Asset && a.Ex <= f.Day })
			})
		}
		m := neutral.All(l, done)
		if !slices.Equal(rest(m), rest(l)) || !fixing.May(m) {
			t.Fatalf("%.300v: %s, of %s", done, told(m), told(l))
		}
		done = done[:1]
		m = neutral.One(l, done[0])
		if !slices.Equal(rest(m), rest(l)) || !fixing.May(m) {
			t.Fatalf("%s: %s, of %s", action.Print(done[0]), told(m), told(l))
		}
	}
}

// P2: prices and ratios of many digits, over one action and over many: none is rounded.
func TestLongNumbers(t *testing.T) {
	long := strings.Repeat("7", 2000)
	l := []api.Fix{
		{Asset: "x", Day: 4, P: num(long)}, {Asset: "x", Day: 5, P: num("1/" + long)}, {Asset: "x", Day: 6, P: num("-" + long + "/" + strings.Repeat("8", 1501))},
		{Asset: "y", Day: 5, P: num(long + "/16")}, {Asset: "y", Day: 6, P: num("5/" + strings.Repeat("9", 1000))},
	}
	var done []api.Action
	for _, s := range []string{"split s1 x 5 5 5 " + nines + "/7", "stock k1 x 5 5 5 1/" + nines, "cash d1 x 5 5 5 1/" + nines, "spin p1 x 5 5 5 y 10000000000000000001/" + nines, "merger m1 y 5 6 9 x " + nines + " 1/" + nines} {
		done = append(done, act(s))
		checkOne(t, l, act(s), second(l, act(s)))
		checkAll(t, l, done, second(l, done...))
	}
	done = nil
	want := big.NewRat(7, 3)
	for range 40 {
		done = append(done, act("split s1 x 5 5 5 98765432109876543210/12345678901234567891"), act("cash d1 x 5 5 5 1/"+nines))
		want.Add(want, figured("1/"+nines)).Mul(want, figured("98765432109876543210/12345678901234567891"))
	}
	checkAll(t, table("x 4 7/3, x 5 7/3"), done, []api.Fix{{Asset: "x", Day: 4, P: num("7/3")}, {Asset: "x", Day: 5, P: of(want)}})
}

// P1: tables of every day, tables of many assets, and many actions.
func TestLongTables(t *testing.T) {
	var l []api.Fix
	for _, asset := range []string{"a", "x", "y"} {
		for day := range 10000 {
			l = append(l, api.Fix{Asset: asset, Day: day, P: num(strconv.Itoa(day) + "/7")})
		}
	}
	for _, s := range []string{"split s1 x 0 5 9 7/3", "stock k1 x 5000 5000 9999 7/3", "cash d1 x 1 5 9 1/7", "spin p1 x 0 5 9 a 2", "spin p1 x 9999 9999 9999 y 2", "merger m1 x 0 5 9 y 2 1", "merger m1 none 0 5 9 x 7 0"} {
		checkOne(t, l, act(s), second(l, act(s)))
	}
	l = nil
	for i := range 20000 {
		l = append(l, api.Fix{Asset: "a" + strconv.Itoa(100000+i), Day: i % 10000, P: num(strconv.Itoa(i%13 - 5))})
	}
	var done []api.Action
	want := slices.Clone(l)
	for i := range 20000 {
		done = append(done, act("split s1 a"+strconv.Itoa(100000+i)+" 5000 5000 5000 2"))
		if want[i].Day >= 5000 {
			want[i].P = num(strconv.Itoa(2 * (i%13 - 5)))
		}
	}
	checkAll(t, l, done, want)
	done = nil
	for range 20000 {
		done = append(done, act("split s1 x 5 5 5 2"), act("split s2 x 5 5 5 1/2"))
	}
	checkAll(t, table("x 4 1, x 5 3, y 5 1"), done, table("x 4 1, x 5 3, y 5 1"))
	checkAll(t, nil, done, nil)
}
