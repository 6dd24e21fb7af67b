package pack_test

import (
	"math"
	"math/big"
	"math/rand"
	"slices"
	"strconv"
	"strings"
	"testing"

	"debenture/api"
	"debenture/pack"
)

// fix answers a fix, its price from a text.
func fix(asset string, day int, p string) api.Fix {
	return api.Fix{Asset: asset, Day: day, P: num(p)}
}

// prices answers a table with prices on several days, of assets that parts are of and of others, some of them 0, or below.
func prices() []api.Fix {
	return []api.Fix{
		fix("!", 3, "100"),
		fix("a", 3, "1/3"), fix("a", 4, "-2"),
		fix("cash", 3, "7"),
		fix("w", 2, "1000"), fix("w", 3, "1000"), fix("w", 4, "1000"),
		fix("x", 0, "5"), fix("x", 2, "6"), fix("x", 3, "8"), fix("x", 4, "0"), fix("x", 9999, "-3"),
		fix("xx", 3, "10000"),
		fix("y", 0, "-1/2"), fix("y", 3, "4"), fix("y", 4, "0"), fix("y", 9999, "2"),
		fix("z", 3, "-1"), fix("z", 4, "0"),
	}
}

// worth answers by a second reading what p is worth by l, both of which may be, and whether it is worth anything.
func worth(p api.Pack, l []api.Fix, day int) (*big.Rat, bool) {
	sum := read(p.Cash)
	for _, x := range p.Parts {
		there := false
		for _, f := range l {
			if f.Asset == x.Asset && f.Day == day {
				sum.Add(sum, new(big.Rat).Mul(read(f.P), read(x.Ratio)))
				there = true
			}
		}
		if !there {
			return nil, false
		}
	}
	return sum, true
}

// checkValue wants that a pack is worth just so much, and that nothing is changed.
func checkValue(t *testing.T, p api.Pack, l []api.Fix, day int, want api.Rat, there bool) {
	t.Helper()
	parts, table := copied(p), slices.Clone(l)
	for range 2 {
		if got, is := pack.Value(p, l, day); got != want || is != there {
			t.Fatalf("%s is worth %.300v, %t on day %d, not %.300v, %t", told(p), got, is, day, want, there)
		}
	}
	if !alike(p, parts) || !slices.Equal(l, table) {
		t.Fatalf("%s, %.300v were changed", told(p), l)
	}
}

// valued holds Value against a second reading, and answers what it is.
func valued(t *testing.T, p api.Pack, l []api.Fix, day int) (api.Rat, bool) {
	t.Helper()
	var want api.Rat
	sum, there := worth(p, l, day)
	if there {
		want = of(sum)
	}
	checkValue(t, p, l, day, want, there)
	return want, there
}

// P16.2: values, written out.
func TestValue(t *testing.T) {
	all := packed("1/2", part("!", "1/100"), part("a", "3"), part("cash", "1"), part("x", "2"), part("y", "1/4"), part("z", "1"))
	for _, c := range []struct {
		p    api.Pack
		day  int
		want string
	}{
		{pack.Of(spin("0.5")), 3, "10"}, {pack.Of(spin("0.5")), 0, "19/4"}, {pack.Of(spin("0.5")), 4, "0"}, {pack.Of(spin("0.5")), 9999, "-2"}, {pack.Of(spin("3")), 3, "20"}, {pack.Of(about(spin("3"), "y", "x")), 3, "28"},
		{pack.Of(split("3/2")), 3, "12"}, {pack.Of(split("3/2")), 2, "9"}, {pack.Of(split("3/2")), 4, "0"}, {pack.Of(split("3/2")), 9999, "-9/2"}, {pack.Of(split("1/3")), 3, "8/3"}, {pack.Of(split(nines)), 3, "799999999999999999992"},
		{pack.Of(stock("1/3")), 3, "32/3"}, {pack.Of(stock("1/2")), 3, "12"}, {pack.Of(stock("1/2")), 9999, "-9/2"},
		{pack.Of(cash("0.25")), 3, "33/4"}, {pack.Of(cash("0.25")), 4, "1/4"}, {pack.Of(cash("0.25")), 9999, "-11/4"}, {pack.Of(cash("1/3")), 3, "25/3"},
		{pack.Of(merger("0.5", "2")), 3, "4"}, {pack.Of(merger("0.5", "2")), 0, "7/4"}, {pack.Of(merger("0.5", "0")), 3, "2"}, {pack.Of(merger("0.5", "2")), 4, "2"}, {pack.Of(merger("0.5", "0")), 4, "0"}, {pack.Of(merger("1/3", "1/"+nines)), 4, "1/" + nines},
		{packed("5"), 3, "5"}, {packed("0"), 3, "0"}, {packed("-5/3"), 3, "-5/3"}, {packed("-5/3"), 77, "-5/3"},
		{packed("-10", part("x", "1")), 3, "-2"}, {packed("-8", part("x", "1")), 3, "0"}, {packed("0", part("z", "1")), 3, "-1"}, {packed("1", part("z", "1")), 3, "0"},
		{all, 3, "51/2"}, {packed("0", part("cash", "2")), 3, "14"}, {packed("0", part("a", "1"), part("x", "1"), part("y", "1"), part("z", "1")), 4, "-2"},
	} {
		checkValue(t, c.p, prices(), c.day, num(c.want), true)
		valued(t, c.p, prices(), c.day)
	}
}

// P16.2: a pack without parts is worth its cash, on whatever day, by whatever table may be.
func TestNoParts(t *testing.T) {
	for _, cash := range []string{"0", "5", "-7/3", nines + nines} {
		for _, l := range [][]api.Fix{nil, {}, prices(), {fix("x", 3, "1")}} {
			for _, day := range []int{0, 3, 9999, -1, 10000, math.MinInt, math.MaxInt} {
				checkValue(t, packed(cash), l, day, num(cash), true)
				checkValue(t, api.Pack{Parts: []api.Part{}, Cash: num(cash)}, l, day, num(cash), true)
			}
		}
	}
}

// P16.2: a price that is missing, on that day or altogether.
func TestMissingPrices(t *testing.T) {
	packs := []api.Pack{packed("1", part("x", "1")), packed("1", part("y", "1/2")), packed("0", part("x", "1"), part("y", "2")), packed("0", part("a", "1"), part("x", "1"), part("y", "2"), part("z", "1"))}
	for _, a := range kinds() {
		packs = append(packs, pack.Of(a))
	}
	for _, p := range packs {
		checkValue(t, p, nil, 3, api.Rat{}, false)
		checkValue(t, p, []api.Fix{}, 3, api.Rat{}, false)
		checkValue(t, p, prices(), 3, func() api.Rat { v, _ := worth(p, prices(), 3); return of(v) }(), true)
		for _, day := range []int{1, 5, 33, 9998, 10000, -1, -3, math.MinInt, math.MaxInt, 1<<32 + 3} {
			checkValue(t, p, prices(), day, api.Rat{}, false)
		}
		for _, x := range p.Parts {
			without := slices.DeleteFunc(prices(), func(f api.Fix) bool { return f.Asset == x.Asset })
			checkValue(t, p, without, 3, api.Rat{}, false)
			on := slices.DeleteFunc(prices(), func(f api.Fix) bool { return f.Asset == x.Asset && f.Day == 3 })
			checkValue(t, p, on, 3, api.Rat{}, false)
		}
		// A day ahead of a price, and one behind it.
		var l []api.Fix
		for _, x := range p.Parts {
			l = append(l, fix(x.Asset, 50, "2"))
		}
		valued(t, p, l, 50)
		checkValue(t, p, l, 49, api.Rat{}, false)
		checkValue(t, p, l, 51, api.Rat{}, false)
		// The others are there on that day, and the one just ahead of it or behind it.
		for i := range l {
			for _, day := range []int{0, 49, 51, 9999} {
				other := slices.Clone(l)
				other[i].Day = day
				checkValue(t, p, other, 50, api.Rat{}, false)
			}
		}
	}
	for _, day := range []int{0, 2, 9999} {
		valued(t, packed("1", part("x", "1"), part("y", "2"), part("z", "1")), prices(), day)
	}
}

// P16.2: of a table that may not be there is no value, whatever the pack.
func TestTablesThatMayNotBe(t *testing.T) {
	x, y := fix("x", 3, "8"), fix("y", 3, "4")
	tables := [][]api.Fix{
		{{}}, {x, {}}, {y, x}, {x, x, y}, {x, y, y}, {x, fix("x", 3, "9"), y}, {fix("x", 4, "1"), x, y}, {x, y, fix("y", 2, "1")}, {x, y, fix("x", 4, "1")},
		{x, y, fix("z", -1, "1")}, {x, y, fix("z", 10000, "1")}, {fix("a", -1, "1"), x, y}, {x, y, fix("Z", 3, "1")}, {x, y, fix("", 3, "1")}, {fix("", 3, "1"), x, y}, {fix("A", 3, "1"), x, y}, {x, y, fix(strings.Repeat("z", 21), 3, "1")}, {x, fix("x!", 3, "1"), y},
	}
	for _, p := range notNumbers() {
		bad := api.Fix{Asset: "z", Day: 3, P: p}
		tables = append(tables, []api.Fix{x, y, bad}, []api.Fix{bad})
		bad.Asset = "x"
		tables = append(tables, []api.Fix{bad, y})
		bad.Day = 9
		tables = append(tables, []api.Fix{x, bad, y})
		bad.Asset, bad.Day = "a", 3
		tables = append(tables, []api.Fix{bad, x, y})
	}
	packs := []api.Pack{packed("5"), packed("0"), packed("1", part("x", "1")), packed("0", part("x", "1"), part("y", "2")), packed("0", part("nothing", "1"))}
	for _, a := range kinds() {
		packs = append(packs, pack.Of(a))
	}
	for _, p := range packs {
		for _, l := range tables {
			for _, day := range []int{3, 0, -1} {
				checkValue(t, p, l, day, api.Rat{}, false)
			}
		}
	}
}

// assets are those of random packs and tables, in order.
var assets = []string{"!", "0", "a", "aa", "b", "cash", "x", "x1", "xx", "y"}

// price answers a random price: above 0, 0 or below.
func price(r *rand.Rand) *big.Rat {
	x := number(r)
	switch r.Intn(6) {
	case 0:
		x.SetInt64(0)
	case 1:
		x.Neg(x)
	}
	return x
}

// table answers a random table, with most of the prices of these days.
func table(r *rand.Rand, days []int) []api.Fix {
	var l []api.Fix
	for _, asset := range assets {
		for _, day := range days {
			if r.Intn(8) > 0 {
				l = append(l, api.Fix{Asset: asset, Day: day, P: of(price(r))})
			}
		}
	}
	return l
}

// chosen answers a random pack of these assets.
func chosen(r *rand.Rand) api.Pack {
	p := api.Pack{Cash: of(price(r))}
	share := r.Intn(4)
	for _, asset := range assets {
		if r.Intn(4) < share {
			p.Parts = append(p.Parts, api.Part{Asset: asset, Ratio: of(number(r))})
		}
	}
	return p
}

// P16.2: random packs by random tables, against a second reading.
func TestRandomValues(t *testing.T) {
	r := rand.New(rand.NewSource(162))
	seen := map[bool]int{}
	for range 4000 {
		p, l := chosen(r), table(r, []int{0, 3, 4, 9999}[:1+r.Intn(4)])
		if r.Intn(4) == 0 {
			p = becomes(random(r))
		}
		for _, day := range []int{0, 3, 4, 5, 9999} {
			_, is := valued(t, p, l, day)
			seen[is]++
		}
	}
	if seen[true] < 2000 || seen[false] < 2000 {
		t.Errorf("%v", seen)
	}
}

// reckoned answers the table whose prices are those of l, reckoned on.
func reckoned(l []api.Fix, on func(i int, p *big.Rat) *big.Rat) []api.Fix {
	out := slices.Clone(l)
	for i, f := range l {
		out[i].P = of(on(i, read(f.P)))
	}
	return out
}

// value answers what Value tells, to be reckoned with.
func value(t *testing.T, p api.Pack, l []api.Fix, day int) *big.Rat {
	t.Helper()
	v, is := pack.Value(p, l, day)
	if !is || !mayNumber(v) {
		t.Fatalf("%s is worth %v, %t", told(p), v, is)
	}
	return read(v)
}

// P16.3: by prices that are sums a value is the sum of both less the cash once; by multiples it is the multiple of what is above the cash; by prices that are all 0 it is the cash.
func TestLinear(t *testing.T) {
	r := rand.New(rand.NewSource(163))
	for range 1500 {
		p := chosen(r)
		if r.Intn(3) == 0 {
			p = pack.Of(turned(random(r), func(a *api.Action) {
				a.Asset = "x"
				if a.Other != "" {
					a.Other = []string{"y", "a", "xx"}[r.Intn(3)]
				}
			}))
		}
		var l []api.Fix
		for _, asset := range assets {
			for _, day := range []int{2, 3, 4} {
				l = append(l, api.Fix{Asset: asset, Day: day, P: of(price(r))})
			}
		}
		others := make([]*big.Rat, len(l))
		for i := range others {
			others[i] = price(r)
		}
		factor := price(r)
		other := reckoned(l, func(i int, p *big.Rat) *big.Rat { return others[i] })
		sum := reckoned(l, func(i int, p *big.Rat) *big.Rat { return p.Add(p, others[i]) })
		multiple := reckoned(l, func(i int, p *big.Rat) *big.Rat { return p.Mul(p, factor) })
		zero := reckoned(l, func(i int, p *big.Rat) *big.Rat { return new(big.Rat) })
		paid := read(p.Cash)
		one, two := value(t, p, l, 3), value(t, p, other, 3)
		if got, want := value(t, p, sum, 3), new(big.Rat).Sub(new(big.Rat).Add(one, two), paid); got.Cmp(want) != 0 {
			t.Fatalf("%s: by sums %v, not %v", told(p), got, want)
		}
		want := new(big.Rat).Sub(one, paid)
		want.Mul(want, factor).Add(want, paid)
		if got := value(t, p, multiple, 3); got.Cmp(want) != 0 {
			t.Fatalf("%s: by multiples %v, not %v", told(p), got, want)
		}
		checkValue(t, p, zero, 3, p.Cash, true)
		// What is at no part's, or on another day, is not asked for.
		beside := reckoned(l, func(i int, price *big.Rat) *big.Rat {
			if l[i].Day == 3 && slices.ContainsFunc(p.Parts, func(x api.Part) bool { return x.Asset == l[i].Asset }) {
				return price
			}
			return others[i]
		})
		checkValue(t, p, beside, 3, of(one), true)
		needed := slices.DeleteFunc(slices.Clone(l), func(f api.Fix) bool {
			return f.Day != 3 || !slices.ContainsFunc(p.Parts, func(x api.Part) bool { return x.Asset == f.Asset })
		})
		checkValue(t, p, needed, 3, of(one), true)
	}
}

// P1: packs of many parts, and tables of many prices.
func TestLongPacks(t *testing.T) {
	const count = 20000
	var p api.Pack
	var l []api.Fix
	want := big.NewRat(1, 7)
	p.Cash = of(want)
	for i := range count {
		asset := "a" + strconv.Itoa(100000+i)
		ratio, at := big.NewRat(int64(1+i%5), int64(1+i%7)), big.NewRat(int64(i%11-3), int64(1+i%13))
		p.Parts = append(p.Parts, api.Part{Asset: asset, Ratio: of(ratio)})
		for day := range 2 {
			l = append(l, api.Fix{Asset: asset, Day: day, P: of(at)})
		}
		want.Add(want, ratio.Mul(ratio, at))
	}
	checkValue(t, p, l, 1, of(want), true)
	checkValue(t, p, l, 2, api.Rat{}, false)
	checkValue(t, p, l[:len(l)-1], 1, api.Rat{}, false)
	checkValue(t, p, l[1:], 0, api.Rat{}, false)
	if !pack.May(p) {
		t.Error("May")
	}
	if pack.Keeps(p, "a") || !pack.Keeps(p, "a100000") || pack.Keeps(p, "a119999") {
		t.Error("Keeps")
	}
	p.Parts[count-1].Asset = p.Parts[count-2].Asset
	bad(t, p)
	// Of one asset, many days.
	l = nil
	for day := range 10000 {
		l = append(l, fix("x", day, strconv.Itoa(day)+"/7"))
	}
	for _, day := range []int{0, 1, 5000, 9999} {
		checkValue(t, packed("1", part("x", "7")), l, day, num(strconv.Itoa(day+1)), true)
	}
}

// P2: values of numbers of any size.
func TestLongNumbers(t *testing.T) {
	long := strings.Repeat("7", 3000)
	for _, s := range []string{long, "1/" + long, "-" + long + "/" + strings.Repeat("8", 2001), long + "/" + power(2, 3000)} {
		above := strings.TrimPrefix(s, "-")
		for _, p := range []api.Pack{packed(s, part("x", "1/3")), packed("1/3", part("x", above)), packed(s, part("x", above), part("y", "2/3"))} {
			for _, l := range [][]api.Fix{{fix("x", 3, s), fix("y", 3, "1/9")}, {fix("x", 3, "5/11"), fix("y", 3, s)}} {
				if _, is := valued(t, p, l, 3); !is {
					t.Fatal(s[:20])
				}
			}
			good(t, p)
		}
	}
}
