package pack_test

import (
	"math"
	"math/big"
	"math/rand"
	"regexp"
	"slices"
	"strings"
	"testing"

	"debenture/api"
	"debenture/pack"
)

// of answers a number as the package has it.
func of(x *big.Rat) api.Rat {
	return api.Rat{Num: x.Num().String(), Den: x.Denom().String()}
}

// figured answers the number of a text.
func figured(s string) *big.Rat {
	x, is := new(big.Rat).SetString(s)
	if !is {
		panic(s)
	}
	return x
}

// num answers the number of a text, as the package has it.
func num(s string) api.Rat {
	return of(figured(s))
}

// read answers a number that may be, to be reckoned with.
func read(x api.Rat) *big.Rat {
	return figured(x.Num + "/" + x.Den)
}

// power answers a number's power in digits.
func power(base, exponent int64) string {
	return new(big.Int).Exp(big.NewInt(base), big.NewInt(exponent), nil).String()
}

// nines are the greatest 20 digits.
var nines = strings.Repeat("9", 20)

// part answers a part, its ratio from a text.
func part(asset, ratio string) api.Part {
	return api.Part{Asset: asset, Ratio: num(ratio)}
}

// packed answers a pack, its cash from a text.
func packed(cash string, parts ...api.Part) api.Pack {
	return api.Pack{Parts: parts, Cash: num(cash)}
}

// Actions of each kind, on days 5, 6 and 9.

func split(ratio string) api.Action {
	return api.Action{Name: "s1", Kind: 0, Asset: "x", Ratio: num(ratio), Cash: num("0"), Ex: 5, Record: 6, Pay: 9}
}

func stock(ratio string) api.Action {
	return api.Action{Name: "k1", Kind: 1, Asset: "x", Ratio: num(ratio), Cash: num("0"), Ex: 5, Record: 6, Pay: 9}
}

func cash(cash string) api.Action {
	return api.Action{Name: "d1", Kind: 2, Asset: "x", Ratio: num("0"), Cash: num(cash), Ex: 5, Record: 6, Pay: 9}
}

func spin(ratio string) api.Action {
	return api.Action{Name: "p1", Kind: 3, Asset: "x", Other: "y", Ratio: num(ratio), Cash: num("0"), Ex: 5, Record: 6, Pay: 9}
}

func merger(ratio, cash string) api.Action {
	return api.Action{Name: "m1", Kind: 4, Asset: "x", Other: "y", Ratio: num(ratio), Cash: num(cash), Ex: 5, Record: 6, Pay: 9}
}

// kinds answers an action of each kind, at its place.
func kinds() []api.Action {
	return []api.Action{split("3/2"), stock("1/3"), cash("0.25"), spin("2"), merger("0.5", "2")}
}

// turned answers a with a thing about it changed.
func turned(a api.Action, turn func(a *api.Action)) api.Action {
	turn(&a)
	return a
}

// about answers a about these assets.
func about(a api.Action, asset, other string) api.Action {
	a.Asset, a.Other = asset, other
	return a
}

// alike tells whether two packs are the same.
func alike(p, q api.Pack) bool {
	return slices.Equal(p.Parts, q.Parts) && p.Cash == q.Cash
}

// copied answers p, of other memory.
func copied(p api.Pack) api.Pack {
	return api.Pack{Parts: slices.Clone(p.Parts), Cash: p.Cash}
}

// brief answers a text that is not too long to be told.
func brief(s string) string {
	if len(s) > 300 {
		return s[:300] + " .."
	}
	return s
}

// told answers a pack as a text.
func told(p api.Pack) string {
	var l []string
	for _, x := range p.Parts {
		l = append(l, x.Ratio.Num+"/"+x.Ratio.Den+" "+x.Asset)
		if len(l) > 20 {
			break
		}
	}
	return brief(strings.Join(append(l, p.Cash.Num+"/"+p.Cash.Den), ", "))
}

var nameForm = regexp.MustCompile(`^[!a-z0-9][a-z0-9]{0,19}$`)

// mayNumber tells by a second reading whether x may be.
func mayNumber(x api.Rat) bool {
	num, is := new(big.Int).SetString(x.Num, 10)
	if !is || num.String() != x.Num {
		return false
	}
	den, is := new(big.Int).SetString(x.Den, 10)
	return is && den.Sign() > 0 && den.String() == x.Den && of(new(big.Rat).SetFrac(num, den)) == x
}

// may tells by a second reading whether p may be.
func may(p api.Pack) bool {
	for i, x := range p.Parts {
		if !nameForm.MatchString(x.Asset) || !mayNumber(x.Ratio) || x.Ratio.Num[0] == '-' || x.Ratio.Num == "0" {
			return false
		}
		for _, y := range p.Parts[:i] {
			if y.Asset >= x.Asset {
				return false
			}
		}
	}
	return mayNumber(p.Cash)
}

// becomes answers by a second reading the pack of an action that may be.
func becomes(a api.Action) api.Pack {
	ratios := map[string]*big.Rat{}
	switch a.Kind {
	case 0:
		ratios[a.Asset] = read(a.Ratio)
	case 1:
		ratios[a.Asset] = new(big.Rat).Add(big.NewRat(1, 1), read(a.Ratio))
	case 2:
		ratios[a.Asset] = big.NewRat(1, 1)
	case 3:
		ratios[a.Asset] = big.NewRat(1, 1)
		ratios[a.Other] = read(a.Ratio)
	case 4:
		ratios[a.Other] = read(a.Ratio)
	}
	p := api.Pack{Cash: num("0")}
	if a.Kind == 2 || a.Kind == 4 {
		p.Cash = a.Cash
	}
	for asset, ratio := range ratios {
		p.Parts = append(p.Parts, api.Part{Asset: asset, Ratio: of(ratio)})
	}
	slices.SortFunc(p.Parts, func(x, y api.Part) int { return strings.Compare(x.Asset, y.Asset) })
	return p
}

// checkOf wants that the pack of a is that one, and all that follows.
func checkOf(t *testing.T, a api.Action, want api.Pack) {
	t.Helper()
	was := a
	got := pack.Of(a)
	if !alike(got, want) || a != was {
		t.Fatalf("the pack of %.300v is %s, not %s", a, told(got), told(want))
	}
	good(t, got)
	// What is written into an answer is in no other one.
	clear(got.Parts)
	if got := pack.Of(a); !alike(got, want) {
		t.Fatalf("the pack of %.300v is %s then, not %s", a, told(got), told(want))
	}
}

// none wants that there is no pack of a.
func none(t *testing.T, a api.Action) {
	t.Helper()
	was := a
	if p := pack.Of(a); len(p.Parts) != 0 || p.Cash != (api.Rat{}) || a != was {
		t.Fatalf("the pack of %.300v is %s", a, told(p))
	}
}

// good wants all that holds of a pack that may be.
func good(t *testing.T, p api.Pack) {
	t.Helper()
	was := copied(p)
	if !pack.May(p) || !pack.May(p) || !alike(p, was) {
		t.Fatalf("%s may not be", told(p))
	}
	for _, x := range p.Parts {
		checkKeeps(t, p, x.Asset)
	}
}

// bad wants all that holds of a pack that may not be.
func bad(t *testing.T, p api.Pack) {
	t.Helper()
	was := copied(p)
	if pack.May(p) || pack.May(p) || !alike(p, was) {
		t.Fatalf("%s may be", told(p))
	}
	for _, l := range [][]api.Fix{nil, prices(), {{}}} {
		for _, day := range []int{3, 0, -1} {
			if v, is := pack.Value(p, l, day); v != (api.Rat{}) || is {
				t.Fatalf("%s is worth %v, %t", told(p), v, is)
			}
		}
	}
}

// checkKeeps holds Keeps against a second reading.
func checkKeeps(t *testing.T, p api.Pack, asset string) {
	t.Helper()
	want := false
	for _, x := range p.Parts {
		want = want || x.Asset == asset && x.Ratio.Num == "1" && x.Ratio.Den == "1"
	}
	if got := pack.Keeps(p, asset); got != want {
		t.Fatalf("%s keeps %.300q: %t", told(p), asset, got)
	}
}

// P16.1: the pack of an action of each kind, written out.
func TestOf(t *testing.T) {
	for _, c := range []struct {
		a    api.Action
		want api.Pack
	}{
		{split("3/2"), packed("0", part("x", "3/2"))}, {split("2"), packed("0", part("x", "2"))}, {split("1"), packed("0", part("x", "1"))}, {split("1/10"), packed("0", part("x", "1/10"))},
		{stock("1/3"), packed("0", part("x", "4/3"))}, {stock("1"), packed("0", part("x", "2"))}, {stock("1/2"), packed("0", part("x", "3/2"))}, {stock("5/3"), packed("0", part("x", "8/3"))}, {stock("0.05"), packed("0", part("x", "21/20"))},
		{cash("0.25"), packed("1/4", part("x", "1"))}, {cash("3"), packed("3", part("x", "1"))}, {cash("1/3"), packed("1/3", part("x", "1"))},
		{spin("0.5"), packed("0", part("x", "1"), part("y", "1/2"))}, {spin("1"), packed("0", part("x", "1"), part("y", "1"))}, {spin("7/3"), packed("0", part("x", "1"), part("y", "7/3"))},
		{merger("0.5", "2"), packed("2", part("y", "1/2"))}, {merger("1", "0"), packed("0", part("y", "1"))}, {merger("4/3", "0"), packed("0", part("y", "4/3"))}, {merger("1", "1/7"), packed("1/7", part("y", "1"))},
	} {
		checkOf(t, c.a, c.want)
	}
}

// P16.1: parts are by asset, whichever one is the action's.
func TestPartsByAsset(t *testing.T) {
	names := []string{"a", "a0", "aa", "ab", "b", "m", "x", "x1", "xx", "y", "z", "z9", strings.Repeat("x", 20), strings.Repeat("x", 19) + "y", "cashx", "issuer"}
	for _, asset := range names {
		for _, other := range names {
			if asset == other {
				none(t, about(spin("2/3"), asset, other))
				none(t, about(merger("2/3", "1"), asset, other))
				continue
			}
			parts := []api.Part{part(asset, "1"), part(other, "2/3")}
			if other < asset {
				slices.Reverse(parts)
			}
			checkOf(t, about(spin("2/3"), asset, other), packed("0", parts...))
			checkOf(t, about(merger("2/3", "1"), asset, other), packed("1", part(other, "2/3")))
		}
		checkOf(t, about(split("2/3"), asset, ""), packed("0", part(asset, "2/3")))
		checkOf(t, about(stock("2/3"), asset, ""), packed("0", part(asset, "5/3")))
		checkOf(t, about(cash("2/3"), asset, ""), packed("2/3", part(asset, "1")))
	}
}

// P16.1: neither an action's name nor its days are in its pack.
func TestNamesAndDaysDoNotCount(t *testing.T) {
	for _, a := range kinds() {
		want := becomes(a)
		for _, name := range []string{"!", "a", "x", "y", "cash", "!issuer", strings.Repeat("0", 20)} {
			for _, days := range [][3]int{{0, 0, 0}, {0, 0, 9999}, {0, 9999, 9999}, {1, 2, 3}, {9999, 9999, 9999}} {
				a.Name, a.Ex, a.Record, a.Pay = name, days[0], days[1], days[2]
				checkOf(t, a, want)
			}
		}
	}
}

// P16.1: numbers of 20 digits.
func TestLongRatios(t *testing.T) {
	round := "1" + strings.Repeat("0", 20)
	checkOf(t, split(nines), packed("0", part("x", nines)))
	checkOf(t, split("1/"+nines), packed("0", part("x", "1/"+nines)))
	checkOf(t, stock(nines), packed("0", part("x", round)))
	checkOf(t, stock("1/"+nines), packed("0", part("x", round+"/"+nines)))
	checkOf(t, stock("10000000000000000001/"+nines), packed("0", part("x", "110000000000000000000/"+nines)))
	checkOf(t, stock(nines+"/99999999999999999998"), packed("0", part("x", "199999999999999999997/99999999999999999998")))
	checkOf(t, cash(nines), packed(nines, part("x", "1")))
	checkOf(t, spin("1/"+nines), packed("0", part("x", "1"), part("y", "1/"+nines)))
	checkOf(t, merger(nines, "1/"+nines), packed("1/"+nines, part("y", nines)))
	longs := []string{"1", "2", "3", "10", nines, "1" + strings.Repeat("0", 19), power(2, 63), power(2, 64), power(2, 66), power(5, 28), power(3, 41), power(7, 23)}
	for _, long := range longs {
		for _, den := range longs {
			x := long + "/" + den
			for _, a := range []api.Action{split(x), stock(x), cash(x), spin(x), merger(x, "0"), merger("1/"+den, x), merger(x, x)} {
				checkOf(t, a, becomes(a))
			}
		}
	}
}

// P16.1: of an action that may not be there is the zero pack.
func TestOfWhatMayNotBe(t *testing.T) {
	none(t, api.Action{})
	long := strings.Repeat("1", 21)
	for _, a := range kinds() {
		for _, turn := range []func(a *api.Action){
			func(a *api.Action) { a.Name = "" }, func(a *api.Action) { a.Name = "A" }, func(a *api.Action) { a.Name = strings.Repeat("a", 21) }, func(a *api.Action) { a.Name = "a b" },
			func(a *api.Action) { a.Asset = "" }, func(a *api.Action) { a.Asset = "cash" }, func(a *api.Action) { a.Asset = "!x" }, func(a *api.Action) { a.Asset = "0" }, func(a *api.Action) { a.Asset = "X" }, func(a *api.Action) { a.Asset = strings.Repeat("x", 1<<16) },
			func(a *api.Action) { a.Other = "cash" }, func(a *api.Action) { a.Other = "x" }, func(a *api.Action) { a.Other = "!y" }, func(a *api.Action) { a.Other = "Y" }, func(a *api.Action) { a.Other = "y y" },
			func(a *api.Action) { a.Kind = -1 }, func(a *api.Action) { a.Kind = 5 }, func(a *api.Action) { a.Kind = math.MaxInt }, func(a *api.Action) { a.Kind = math.MinInt }, func(a *api.Action) { a.Kind += 1 << 32 },
			func(a *api.Action) { a.Ex = -1 }, func(a *api.Action) { a.Ex = 7 }, func(a *api.Action) { a.Record = 10 }, func(a *api.Action) { a.Record = 4 }, func(a *api.Action) { a.Pay = 10000 }, func(a *api.Action) { a.Pay = 5 },
			func(a *api.Action) { a.Ratio = api.Rat{} }, func(a *api.Action) { a.Cash = api.Rat{} }, func(a *api.Action) { a.Ratio = num("-1") }, func(a *api.Action) { a.Cash = num("-1") }, func(a *api.Action) { a.Ratio = num(long) }, func(a *api.Action) { a.Cash = num("1/" + long) },
			func(a *api.Action) { a.Ratio = api.Rat{Num: "2", Den: "2"} }, func(a *api.Action) { a.Cash = api.Rat{Num: "0", Den: "2"} }, func(a *api.Action) { a.Ratio = api.Rat{Num: "1", Den: "0"} }, func(a *api.Action) { a.Cash = api.Rat{Num: "x", Den: "1"} }, func(a *api.Action) { a.Ratio = api.Rat{Num: strings.Repeat("7", 1<<16), Den: "1"} },
		} {
			none(t, turned(a, turn))
		}
	}
	for _, a := range []api.Action{split("0"), stock("0"), cash("0"), spin("0"), merger("0", "0"), merger("0", "1"), stock("-1/2"), stock("-1"), split("-1"), cash("-1"), merger("1", "-1")} {
		none(t, a)
	}
	for _, a := range []api.Action{about(split("1"), "x", "y"), about(stock("1"), "x", "y"), about(cash("1"), "x", "y"), about(spin("1"), "x", ""), about(merger("1", "1"), "x", "")} {
		none(t, a)
	}
	for _, a := range []api.Action{split("1"), stock("1"), spin("1")} {
		none(t, turned(a, func(a *api.Action) { a.Cash = num("1") }))
	}
	none(t, turned(cash("1"), func(a *api.Action) { a.Ratio = num("1") }))
}

// name answers a random name of an asset.
func name(r *rand.Rand, first string) string {
	out := []byte{first[r.Intn(len(first))]}
	for r.Intn(3) > 0 && len(out) < 20 {
		out = append(out, "axyz09"[r.Intn(6)])
	}
	return string(out)
}

// number answers a random number above 0, of 20 digits at most over 20.
func number(r *rand.Rand) *big.Rat {
	digits := func() *big.Int {
		ten := new(big.Int).Exp(big.NewInt(10), big.NewInt(int64(1+r.Intn(20))), nil)
		return new(big.Int).Add(big.NewInt(1), new(big.Int).Rand(r, new(big.Int).Sub(ten, big.NewInt(1))))
	}
	den := digits()
	if r.Intn(2) == 0 {
		den.SetInt64(int64(1 + r.Intn(12)))
	}
	return new(big.Rat).SetFrac(digits(), den)
}

// random answers a random action that may be.
func random(r *rand.Rand) api.Action {
	a := turned(kinds()[r.Intn(5)], func(a *api.Action) { a.Asset = name(r, "axyz") })
	for a.Kind > 2 && (a.Other == a.Asset || r.Intn(3) > 0) {
		a.Other = name(r, "axyz")
	}
	if a.Kind != 2 {
		a.Ratio = of(number(r))
	}
	if a.Kind == 2 || a.Kind == 4 && r.Intn(3) > 0 {
		a.Cash = of(number(r))
	}
	return a
}

// P16.1: packs of random actions.
func TestRandomActions(t *testing.T) {
	r := rand.New(rand.NewSource(16))
	for range 5000 {
		a := random(r)
		p := becomes(a)
		checkOf(t, a, p)
		for _, asset := range []string{a.Asset, a.Other, "", "x", "nothing", "!", "cash"} {
			checkKeeps(t, p, asset)
		}
	}
}

// P16.1: an action keeps its own asset, where one of it stays one, and another one never.
func TestKeepsOfActions(t *testing.T) {
	for _, c := range []struct {
		a    api.Action
		x, y bool
	}{
		{split("1"), true, false}, {split("2"), false, false}, {split("1/2"), false, false}, {split("100000000000000001/100000000000000000"), false, false},
		{stock("1"), false, false}, {stock("1/" + nines), false, false}, {stock("2"), false, false},
		{cash("1"), true, false}, {cash("0.01"), true, false}, {cash(nines), true, false},
		{spin("1"), true, true}, {spin("2"), true, false}, {spin("1/2"), true, false}, {spin(nines), true, false},
		{merger("1", "0"), false, true}, {merger("1", "1"), false, true}, {merger("2", "0"), false, false}, {merger("1/2", "1"), false, false},
	} {
		p := pack.Of(c.a)
		if pack.Keeps(p, "x") != c.x || pack.Keeps(p, "y") != c.y {
			t.Errorf("%s keeps x: %t, y: %t", told(p), pack.Keeps(p, "x"), pack.Keeps(p, "y"))
		}
		for _, asset := range []string{"", "z", "cash", "xx", "X", "x ", "1", "!x", strings.Repeat("x", 1<<16)} {
			if pack.Keeps(p, asset) {
				t.Errorf("%s keeps %.100q", told(p), asset)
			}
		}
	}
}

// P16.1: what Keeps tells of packs of no part, of one and of several.
func TestKeeps(t *testing.T) {
	p := packed("1", part("!", "1"), part("a", "2"), part("b", "1"), part("bb", "1/2"), part("cash", "1"), part("x", "11"), part("y", "10"), part("z", "1"))
	was := copied(p)
	for asset, want := range map[string]bool{"!": true, "a": false, "b": true, "bb": false, "cash": true, "x": false, "y": false, "z": true, "": false, "!a": false, "c": false, "zz": false, "B": false} {
		if pack.Keeps(p, asset) != want || pack.Keeps(p, asset) != want || !alike(p, was) {
			t.Errorf("%q", asset)
		}
	}
	for _, p := range []api.Pack{{}, {Parts: []api.Part{}}, packed("0"), packed("1"), packed("1", part("y", "1")), packed("0", part("x", "2")), {Parts: []api.Part{{Asset: "x"}}}, {Parts: []api.Part{{Asset: "x", Ratio: api.Rat{Num: "1"}}}}, {Parts: []api.Part{{Asset: "x", Ratio: api.Rat{Den: "1"}}}}, packed("0", part("x", "-1")), {Parts: []api.Part{{Asset: "x", Ratio: api.Rat{Num: "2", Den: "2"}}}}} {
		for _, asset := range []string{"x", "", "cash"} {
			if pack.Keeps(p, asset) {
				t.Errorf("%s keeps %q", told(p), asset)
			}
		}
	}
}

// P16.1: packs that may be: of no part, of one and of several.
func TestPacksThatMayBe(t *testing.T) {
	one := part("x", "1")
	for _, cash := range []string{"0", "1", "-1", "1/3", "-22/7", nines + nines, "1/" + nines + "7"} {
		good(t, packed(cash))
		good(t, api.Pack{Parts: []api.Part{}, Cash: num(cash)})
		good(t, packed(cash, one))
		good(t, packed(cash, part("a", "2"), one))
		good(t, packed(cash, part("!", "1/2"), part("!x", "3"), part("0", "1"), part("01", "1"), part("a", "1"), part("aa", "1"), part("ab", "1"), part("b", "1"), part("cash", "1"), part("x", nines+nines+"1/7"), part("xx", "1/"+nines+nines), part(strings.Repeat("z", 20), "1")))
	}
	for c := range 256 {
		for _, name := range []string{string([]byte{byte(c)}), string([]byte{'a', byte(c)}), strings.Repeat("a", 19) + string([]byte{byte(c)}), string([]byte{byte(c)}) + strings.Repeat("a", 20)} {
			for _, p := range []api.Pack{packed("0", part(name, "1")), packed("0", part("0", "2"), part(name, "1")), packed("0", part(name, "1"), part("x", "2")), packed("0", part("\x00", "1"), part(name, "1")), packed("0", part(name, "1"), part("~", "1"))} {
				if may(p) {
					good(t, p)
				} else {
					bad(t, p)
				}
			}
		}
	}
}

// notNumbers answers Rats that may not be.
func notNumbers() []api.Rat {
	return []api.Rat{
		{}, {Num: "1"}, {Den: "1"}, {Num: "0"}, {Num: "0", Den: "0"}, {Num: "1", Den: "0"}, {Num: "-1", Den: "0"}, {Num: "0", Den: "2"}, {Num: "-0", Den: "1"}, {Num: "0", Den: "-1"}, {Num: "1", Den: "-1"}, {Num: "-1", Den: "-2"}, {Num: "2", Den: "2"}, {Num: "2", Den: "4"}, {Num: "-6", Den: "9"}, {Num: "01", Den: "1"}, {Num: "00", Den: "1"}, {Num: "1", Den: "01"}, {Num: "+1", Den: "1"}, {Num: "1", Den: "+1"},
		{Num: "1.5", Den: "1"}, {Num: "1/2", Den: "1"}, {Num: "a", Den: "1"}, {Num: "1", Den: "a"}, {Num: " 1", Den: "1"}, {Num: "1", Den: "1\n"}, {Num: "-", Den: "1"}, {Num: "१", Den: "1"}, {Num: strings.Repeat("3", 3000), Den: strings.Repeat("6", 3000)}, {Num: strings.Repeat("x", 1<<16), Den: "1"},
	}
}

// P16.1, P16.2: packs whose parts do not rise, or are twice, or may not be, or whose cash may not be: May answers false, and Value nothing.
func TestPacksThatMayNotBe(t *testing.T) {
	x, y, z := part("x", "1"), part("y", "2"), part("z", "1/2")
	bad(t, api.Pack{})
	bad(t, api.Pack{Parts: []api.Part{}})
	for _, parts := range [][]api.Part{
		{x, x}, {y, x}, {x, part("x", "2")}, {x, y, y}, {x, x, y}, {x, y, x}, {z, y, x}, {x, z, y}, {y, x, z}, {y, z, x}, {z, x, y}, {part("xx", "1"), x}, {x, part("!", "1")}, {x, part("0", "1")}, {part("a", "1"), part("aa", "1"), part("a0", "1")},
	} {
		bad(t, packed("0", parts...))
	}
	for _, name := range []string{"", "X", "!!", "x!", "a b", " x", "x ", "x\n", "é", "-", "x.y", strings.Repeat("x", 21), "!" + strings.Repeat("x", 20), strings.Repeat("x", 1<<16)} {
		for i := range 3 {
			parts := []api.Part{x, y, z}
			parts[i].Asset = name
			bad(t, packed("0", parts...))
			bad(t, packed("0", parts[i]))
			slices.SortFunc(parts, func(x, y api.Part) int { return strings.Compare(x.Asset, y.Asset) })
			bad(t, packed("0", parts...))
		}
	}
	for _, ratio := range append(notNumbers(), num("0"), num("-1"), num("-1/2"), num("-"+nines), num("-1/"+nines)) {
		for i := range 3 {
			parts := []api.Part{x, y, z}
			parts[i].Ratio = ratio
			bad(t, packed("0", parts...))
			bad(t, packed("1", parts[i]))
		}
	}
	for _, cash := range notNumbers() {
		bad(t, api.Pack{Cash: cash})
		bad(t, api.Pack{Parts: []api.Part{x}, Cash: cash})
		bad(t, api.Pack{Parts: []api.Part{x, y, z}, Cash: cash})
	}
}

// P16.1: random packs, some of which may not be, against a second reading.
func TestMixedPacks(t *testing.T) {
	r := rand.New(rand.NewSource(161))
	seen := map[bool]int{}
	for range 20000 {
		p := api.Pack{Cash: num([]string{"0", "1", "-2/3"}[r.Intn(3)])}
		for range r.Intn(5) {
			p.Parts = append(p.Parts, api.Part{Asset: name(r, "!0axyz"), Ratio: of(number(r))})
		}
		if r.Intn(8) > 0 {
			slices.SortFunc(p.Parts, func(x, y api.Part) int { return strings.Compare(x.Asset, y.Asset) })
		}
		if i := r.Intn(16); i < len(p.Parts) {
			p.Parts[i].Ratio = append(notNumbers(), num("0"), num("-1"))[r.Intn(20)]
		}
		if i := r.Intn(16); i < len(p.Parts) {
			p.Parts[i].Asset = []string{"", "!!", "A", "zz zz", "é", strings.Repeat("z", 21)}[r.Intn(6)]
		}
		if r.Intn(16) == 0 {
			p.Cash = notNumbers()[r.Intn(20)]
		}
		is := may(p)
		seen[is]++
		if is {
			good(t, p)
		} else {
			bad(t, p)
		}
		checkKeeps(t, p, "x")
	}
	if seen[true] < 5000 || seen[false] < 3000 {
		t.Errorf("%v", seen)
	}
}
