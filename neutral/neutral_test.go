package neutral_test

import (
	"math"
	"math/big"
	"slices"
	"strconv"
	"strings"
	"testing"

	"debenture/action"
	"debenture/api"
	"debenture/fixing"
	"debenture/neutral"
)

// of answers a number as the package has it.
func of(x *big.Rat) api.Rat {
	return api.Rat{Num: x.Num().String(), Den: x.Denom().String()}
}

// figured answers the number of a text.
func figured(s string) *big.Rat {
	x, is := new(big.Rat).SetString(s)
	if !is {
		panic(s)
	}
	return x
}

// num answers the number of a text, as the package has it.
func num(s string) api.Rat {
	return of(figured(s))
}

// read answers a number that may be, to be reckoned with.
func read(x api.Rat) *big.Rat {
	return figured(x.Num + "/" + x.Den)
}

// nines are the greatest 20 digits.
var nines = strings.Repeat("9", 20)

// act answers the action of a text.
func act(s string) api.Action {
	a, e := action.Parse(s)
	if e != api.OK {
		panic(s)
	}
	return a
}

// acts answers the actions of texts.
func acts(texts ...string) []api.Action {
	var l []api.Action
	for _, s := range texts {
		l = append(l, act(s))
	}
	return l
}

// table answers the fixes of a text: of each its asset, its day and its price, with commas between.
func table(s string) []api.Fix {
	var l []api.Fix
	for part := range strings.SplitSeq(s, ",") {
		if strings.TrimSpace(part) == "" {
			continue
		}
		words := strings.Fields(part)
		day, e := strconv.Atoi(words[1])
		if e != nil || len(words) != 3 {
			panic(part)
		}
		l = append(l, api.Fix{Asset: words[0], Day: day, P: num(words[2])})
	}
	return l
}

// told answers the text of fixes, if it is not too long.
func told(l []api.Fix) string {
	var parts []string
	for _, f := range l {
		parts = append(parts, f.Asset+" "+strconv.Itoa(f.Day)+" "+f.P.Num+"/"+f.P.Den)
	}
	s := strings.Join(parts, ", ")
	if len(s) > 1000 {
		return s[:1000] + " .."
	}
	return s
}

// compare holds assets, and then days, against each other, for tests to sort by.
func compare(f, g api.Fix) int {
	if f.Asset != g.Asset {
		return strings.Compare(f.Asset, g.Asset)
	}
	return f.Day - g.Day
}

// with answers l with the fixes of that text in place of all of the asset's.
func with(l []api.Fix, asset, own string) []api.Fix {
	out := table(own)
	for _, f := range l {
		if f.Asset != asset {
			out = append(out, f)
		}
	}
	slices.SortFunc(out, compare)
	return out
}

// roomy answers a copy of l in memory in which there is room behind it, with what must not be written over.
func roomy(l []api.Fix) []api.Fix {
	all := append(slices.Clone(l), table("room 1 1, room 2 2, room 3 3")...)
	return all[:len(l)]
}

// check wants that ask of a table answers that, again and again, and neither changes the table nor shares its memory.
func check(t *testing.T, what string, l, want []api.Fix, ask func(l []api.Fix) []api.Fix) {
	t.Helper()
	given := roomy(l)
	for range 2 {
		got := ask(given)
		if !slices.Equal(got, want) {
			t.Fatalf("%.300s of %s:\n%s, not\n%s", what, told(l), told(got), told(want))
		}
		// What is written into an answer is neither in what was handed in nor in the next answer.
		clear(got[:cap(got)])
		if !slices.Equal(given, l) || !slices.Equal(given[len(l):len(l)+3], table("room 1 1, room 2 2, room 3 3")) {
			t.Fatalf("%.300s of %s changed it: %s", what, told(l), told(given[:len(l)+3]))
		}
	}
}

// checkAll wants that All of l and these actions is that table, and that it may be one.
func checkAll(t *testing.T, l []api.Fix, done []api.Action, want []api.Fix) {
	t.Helper()
	if !fixing.May(want) {
		t.Fatalf("%s may not be", told(want))
	}
	was := slices.Clone(done)
	check(t, "All", l, want, func(l []api.Fix) []api.Fix { return neutral.All(l, done) })
	if !slices.Equal(done, was) {
		t.Fatalf("%.300v were %.300v", done, was)
	}
}

// checkOne wants that One of l and a is that table, that All of a alone is it, too, and that it may be one.
func checkOne(t *testing.T, l []api.Fix, a api.Action, want []api.Fix) {
	t.Helper()
	check(t, action.Print(a), l, want, func(l []api.Fix) []api.Fix { return neutral.One(l, a) })
	checkAll(t, l, []api.Action{a}, want)
}

// sample answers a table: of x with prices ahead of day 5, on it, behind it and on day 9999, and of others on some of these days.
func sample() []api.Fix {
	return table("! 5 1, a 4 7, a 5 9, cash 5 50, x 0 5, x 4 60, x 5 30, x 6 31, x 9999 -3, x1 5 11, xx 5 100, y 4 1, y 5 8, y 7 2, y 9999 4, z 5 1000, z 6 0")
}

// P17.1: an action of each kind, written out: what becomes of x, and that nothing else does.
func TestOne(t *testing.T) {
	for s, own := range map[string]string{
		"split s1 x 5 5 5 2":   "x 0 5, x 4 60, x 5 60, x 6 62, x 9999 -6",
		"split s1 x 5 5 5 1/3": "x 0 5, x 4 60, x 5 10, x 6 31/3, x 9999 -1",
		"split s1 x 5 5 5 1":   "x 0 5, x 4 60, x 5 30, x 6 31, x 9999 -3",
		"split s1 x 0 5 5 2":   "x 0 10, x 4 120, x 5 60, x 6 62, x 9999 -6",
		"split s1 x 6 6 6 2":   "x 0 5, x 4 60, x 5 30, x 6 62, x 9999 -6",
		"split s1 x 7 7 7 2":   "x 0 5, x 4 60, x 5 30, x 6 31, x 9999 -6",

		"stock k1 x 5 5 5 1/2": "x 0 5, x 4 60, x 5 45, x 6 93/2, x 9999 -9/2",
		"stock k1 x 5 5 5 2":   "x 0 5, x 4 60, x 5 90, x 6 93, x 9999 -9",
		"stock k1 x 4 5 5 0.1": "x 0 5, x 4 66, x 5 33, x 6 34.1, x 9999 -3.3",

		"cash d1 x 5 5 5 0.25": "x 0 5, x 4 60, x 5 121/4, x 6 125/4, x 9999 -11/4",
		"cash d1 x 5 5 5 3":    "x 0 5, x 4 60, x 5 33, x 6 34, x 9999 0",
		"cash d1 x 1 5 5 1/3":  "x 0 5, x 4 181/3, x 5 91/3, x 6 94/3, x 9999 -8/3",

		"spin p1 x 5 5 5 y 0.5":  "x 0 5, x 4 60, x 5 34, x 9999 -1",
		"spin p1 x 4 5 5 y 2":    "x 0 5, x 4 62, x 5 46, x 9999 5",
		"spin p1 x 5 5 5 a 2":    "x 0 5, x 4 60, x 5 48",
		"spin p1 x 4 5 5 a 1/9":  "x 0 5, x 4 547/9, x 5 31",
		"spin p1 x 6 6 6 a 2":    "x 0 5, x 4 60, x 5 30",
		"spin p1 x 5 5 5 z 0.01": "x 0 5, x 4 60, x 5 40, x 6 31",
		"spin p1 x 5 5 5 none 1": "x 0 5, x 4 60",

		"merger m1 x 5 5 5 y 2 1":     "x 0 5, x 4 60, x 5 17, x 7 5, x 9999 9",
		"merger m1 x 4 5 5 y 0.5 0":   "x 0 5, x 4 1/2, x 5 4, x 7 1, x 9999 2",
		"merger m1 x 5 5 5 a 1/3 0.5": "x 0 5, x 4 60, x 5 7/2",
		"merger m1 x 4 5 5 a 1 0":     "x 0 5, x 4 7, x 5 9",
		"merger m1 x 6 6 6 a 1 5":     "x 0 5, x 4 60, x 5 30",
		"merger m1 x 5 5 5 z 1 1":     "x 0 5, x 4 60, x 5 1001, x 6 1",
		"merger m1 x 5 5 5 none 1 7":  "x 0 5, x 4 60",
		"merger m1 x 0 0 0 none 1 7":  "",
	} {
		checkOne(t, sample(), act(s), with(sample(), "x", own))
	}
}

// P17.1: an asset's fixes have their place, whether it had some or none, and wherever among the others it lies.
func TestPlaces(t *testing.T) {
	l := sample()
	for _, asset := range []string{"b", "aa", "a0", "c", "casha", "w", "x0", "x2", "xy", "yy", "zz", "y0", strings.Repeat("x", 20), strings.Repeat("z", 20)} {
		own := func(days string) string { return strings.ReplaceAll(days, "?", asset) }
		checkOne(t, l, act("merger m1 "+asset+" 5 5 5 y 2 1"), with(l, asset, own("? 5 17, ? 7 5, ? 9999 9")))
		checkOne(t, l, act("merger m1 "+asset+" 0 5 5 a 1 0"), with(l, asset, own("? 4 7, ? 5 9")))
		checkOne(t, l, act("merger m1 "+asset+" 0 5 5 none 1 5"), l)
		// Without a price of its own, nothing becomes of it by the other kinds.
		for _, s := range []string{"split s1 ? 0 5 5 2", "stock k1 ? 0 5 5 2", "cash d1 ? 0 5 5 2", "spin p1 ? 0 5 5 y 2"} {
			checkOne(t, l, act(own(s)), l)
		}
	}
	for s, want := range map[string]string{
		"merger m1 a 0 5 5 x 1 0": "a 3 2, x 3 2", "merger m1 z 0 5 5 x 1 0": "x 3 2, z 3 2", "merger m1 x0 0 5 5 x 1 0": "x 3 2, x0 3 2", "merger m1 w9 0 5 5 x 1 0": "w9 3 2, x 3 2",
		"merger m1 a 3 5 5 x 1 0": "a 3 2, x 3 2", "merger m1 z 4 5 5 x 1 0": "x 3 2", "merger m1 x 3 5 5 a 1 0": "", "merger m1 x 4 5 5 a 1 0": "x 3 2",
	} {
		checkOne(t, table("x 3 2"), act(s), table(want))
	}
	for s, want := range map[string]string{
		"split s1 a 3 5 5 2": "a 2 1, a 3 4, x 2 5, x 3 6, z 2 8, z 3 9", "split s1 x 3 5 5 2": "a 2 1, a 3 2, x 2 5, x 3 12, z 2 8, z 3 9", "split s1 z 3 5 5 2": "a 2 1, a 3 2, x 2 5, x 3 6, z 2 8, z 3 18",
		"merger s1 a 3 5 5 z 2 1": "a 2 1, a 3 19, x 2 5, x 3 6, z 2 8, z 3 9", "merger s1 z 3 5 5 a 2 1": "a 2 1, a 3 2, x 2 5, x 3 6, z 2 8, z 3 5", "merger s1 x 0 5 5 q 2 1": "a 2 1, a 3 2, z 2 8, z 3 9",
	} {
		checkOne(t, table("a 2 1, a 3 2, x 2 5, x 3 6, z 2 8, z 3 9"), act(s), table(want))
	}
}

// P17.1: days at both edges: Ex 0 changes all days, Ex 9999 that one alone.
func TestEdgesOfDays(t *testing.T) {
	l := table("a 0 1, a 1 2, a 9998 3, a 9999 4, x 0 10, x 1 20, x 9998 30, x 9999 40, y 0 100, y 1 200, y 9998 300, y 9999 400")
	for s, own := range map[string]string{
		"split s1 x 0 0 0 2":               "x 0 20, x 1 40, x 9998 60, x 9999 80",
		"split s1 x 1 1 1 2":               "x 0 10, x 1 40, x 9998 60, x 9999 80",
		"split s1 x 2 2 2 2":               "x 0 10, x 1 20, x 9998 60, x 9999 80",
		"split s1 x 9998 9998 9999 2":      "x 0 10, x 1 20, x 9998 60, x 9999 80",
		"split s1 x 9999 9999 9999 2":      "x 0 10, x 1 20, x 9998 30, x 9999 80",
		"stock s1 x 0 9999 9999 1":         "x 0 20, x 1 40, x 9998 60, x 9999 80",
		"stock s1 x 9999 9999 9999 1":      "x 0 10, x 1 20, x 9998 30, x 9999 80",
		"cash d1 x 0 0 9999 1":             "x 0 11, x 1 21, x 9998 31, x 9999 41",
		"cash d1 x 9999 9999 9999 1":       "x 0 10, x 1 20, x 9998 30, x 9999 41",
		"spin d1 x 0 0 0 y 1":              "x 0 110, x 1 220, x 9998 330, x 9999 440",
		"spin d1 x 0 0 0 a 1":              "x 0 11, x 1 22, x 9998 33, x 9999 44",
		"spin d1 x 9999 9999 9999 y 1":     "x 0 10, x 1 20, x 9998 30, x 9999 440",
		"spin d1 x 9999 9999 9999 b 1":     "x 0 10, x 1 20, x 9998 30",
		"merger d1 x 0 0 0 a 1 1":          "x 0 2, x 1 3, x 9998 4, x 9999 5",
		"merger d1 x 0 0 0 b 1 1":          "",
		"merger d1 x 9999 9999 9999 y 1 0": "x 0 10, x 1 20, x 9998 30, x 9999 400",
		"merger d1 x 9999 9999 9999 b 1 0": "x 0 10, x 1 20, x 9998 30",
	} {
		checkOne(t, l, act(s), with(l, "x", own))
	}
	// The same day again and again: what is at the edges of a day's own stretch.
	for _, day := range []int{0, 1, 2, 5000, 9997, 9998, 9999} {
		for ex := max(0, day-2); ex <= min(9999, day+2); ex++ {
			l := []api.Fix{{Asset: "x", Day: day, P: num("7")}}
			want := slices.Clone(l)
			if day >= ex {
				want[0].P = num("21")
			}
			a := act("split s1 x 0 9999 9999 3")
			a.Ex = ex
			checkOne(t, l, a, want)
		}
	}
}

// P17.1: neither an action's name nor its other days count.
func TestNamesAndOtherDaysDoNotCount(t *testing.T) {
	for _, s := range []string{"split ? x 5 # 2", "stock ? x 5 # 2", "cash ? x 5 # 2", "spin ? x 5 # y 2", "merger ? x 5 # y 2 1", "merger ? x 5 # a 2 1"} {
		want := second(sample(), act(strings.NewReplacer("?", "n", "#", "5 5").Replace(s)))
		for _, name := range []string{"!", "0", "x", "y", "cash", "!issuer"} {
			for _, days := range []string{"5 5", "5 6", "6 6", "7 9999", "9999 9999"} {
				checkOne(t, sample(), act(strings.NewReplacer("?", name, "#", days).Replace(s)), want)
			}
		}
	}
}

// P17.1: a day on which a part's price is missing has none, whatever other days have.
func TestMissingPrices(t *testing.T) {
	l := table("a 5 1, a 7 3, a 9 5, x 4 10, x 5 20, x 6 30, x 7 40, x 9 60, z 3 100, z 6 200, z 7 300, z 8 400, z 9 500")
	for s, own := range map[string]string{
		"spin p1 x 5 5 5 a 2":     "x 4 10, x 5 22, x 7 46, x 9 70",
		"spin p1 x 4 5 5 a 2":     "x 5 22, x 7 46, x 9 70",
		"spin p1 x 6 6 6 a 2":     "x 4 10, x 5 20, x 7 46, x 9 70",
		"spin p1 x 8 8 8 a 2":     "x 4 10, x 5 20, x 6 30, x 7 40, x 9 70",
		"spin p1 x 5 5 5 z 1":     "x 4 10, x 6 230, x 7 340, x 9 560",
		"spin p1 x 0 5 5 z 1":     "x 6 230, x 7 340, x 9 560",
		"spin p1 x 5 5 5 y 1":     "x 4 10",
		"spin p1 x 0 5 5 y 1":     "",
		"spin p1 x 10 10 10 y 1":  "x 4 10, x 5 20, x 6 30, x 7 40, x 9 60",
		"merger m1 x 5 5 5 a 2 0": "x 4 10, x 5 2, x 7 6, x 9 10",
		"merger m1 x 6 6 6 a 2 0": "x 4 10, x 5 20, x 7 6, x 9 10",
		"merger m1 x 5 5 5 z 1 1": "x 4 10, x 6 201, x 7 301, x 8 401, x 9 501",
		"merger m1 x 3 5 5 z 1 1": "x 3 101, x 6 201, x 7 301, x 8 401, x 9 501",
		"merger m1 x 2 5 5 z 1 1": "x 3 101, x 6 201, x 7 301, x 8 401, x 9 501",
		"merger m1 x 4 5 5 z 1 1": "x 6 201, x 7 301, x 8 401, x 9 501",
		"merger m1 x 9 9 9 z 1 1": "x 4 10, x 5 20, x 6 30, x 7 40, x 9 501",
		"merger m1 x 5 5 5 y 1 1": "x 4 10",
	} {
		checkOne(t, l, act(s), with(l, "x", own))
	}
	// A fix that is taken away of a table, of those that a pack asks for, takes that day's along.
	for _, s := range []string{"split s1 x 5 5 5 2", "stock k1 x 5 5 5 2", "cash d1 x 5 5 5 2", "spin p1 x 5 5 5 a 2", "spin p1 x 5 5 5 z 2", "merger m1 x 5 5 5 a 2 1", "merger m1 x 5 5 5 z 2 1"} {
		for i := range l {
			left := slices.Delete(slices.Clone(l), i, i+1)
			checkOne(t, left, act(s), second(left, act(s)))
		}
	}
}

// P17.1: a merger does not ask for the asset's own price: there is one on a day on which the asset had none, from Ex on, and none where Other had none.
func TestMergerNeedsNoOwnPrice(t *testing.T) {
	l := table("x 2 1, x 6 7, y 1 10, y 3 30, y 4 40, y 5 50, y 9999 60")
	for ex, own := range map[string]string{
		"0": "x 1 21, x 3 61, x 4 81, x 5 101, x 9999 121", "1": "x 1 21, x 3 61, x 4 81, x 5 101, x 9999 121",
		"2": "x 3 61, x 4 81, x 5 101, x 9999 121", "3": "x 2 1, x 3 61, x 4 81, x 5 101, x 9999 121", "4": "x 2 1, x 4 81, x 5 101, x 9999 121",
		"6": "x 2 1, x 9999 121", "7": "x 2 1, x 6 7, x 9999 121", "9999": "x 2 1, x 6 7, x 9999 121",
	} {
		checkOne(t, l, act("merger m1 x "+ex+" 9999 9999 y 2 1"), with(l, "x", own))
	}
}

// P17.1: prices that are 0, and below.
func TestZerosAndBelow(t *testing.T) {
	l := table("a 5 0, a 6 -1, a 7 1/2, x 4 0, x 5 0, x 6 -8, x 7 -1/3, y 5 -4, y 6 16, y 7 0")
	for s, own := range map[string]string{
		"split s1 x 5 5 5 2":         "x 4 0, x 5 0, x 6 -16, x 7 -2/3",
		"split s1 x 4 5 5 2":         "x 4 0, x 5 0, x 6 -16, x 7 -2/3",
		"stock k1 x 5 5 5 1/2":       "x 4 0, x 5 0, x 6 -12, x 7 -1/2",
		"cash d1 x 5 5 5 8":          "x 4 0, x 5 8, x 6 0, x 7 23/3",
		"cash d1 x 5 5 5 1/3":        "x 4 0, x 5 1/3, x 6 -23/3, x 7 0",
		"spin p1 x 5 5 5 y 1/2":      "x 4 0, x 5 -2, x 6 0, x 7 -1/3",
		"spin p1 x 5 5 5 a 2/3":      "x 4 0, x 5 0, x 6 -26/3, x 7 0",
		"merger m1 x 5 5 5 y 1/4 0":  "x 4 0, x 5 -1, x 6 4, x 7 0",
		"merger m1 x 5 5 5 y 1/4 1":  "x 4 0, x 5 0, x 6 5, x 7 1",
		"merger m1 x 5 5 5 a 3 1.5":  "x 4 0, x 5 3/2, x 6 -3/2, x 7 3",
		"merger m1 x 5 5 5 a 1 1":    "x 4 0, x 5 1, x 6 0, x 7 3/2",
		"merger m1 x 0 5 5 a 10/3 0": "x 5 0, x 6 -10/3, x 7 5/3",
	} {
		checkOne(t, l, act(s), with(l, "x", own))
	}
}

// each are the texts of an action of each kind.
func each() []string {
	return []string{"split s1 x 5 6 9 2", "stock k1 x 5 6 9 1/2", "cash d1 x 5 6 9 0.25", "spin p1 x 5 6 9 y 0.5", "spin p1 x 5 6 9 a 0.5", "merger m1 x 5 6 9 y 2 1", "merger m1 x 5 6 9 a 2 0"}
}

// P17.1, P17.2, R5: of an empty table comes an empty one, and no action may be an empty list or a nil one.
func TestEmpty(t *testing.T) {
	for _, l := range [][]api.Fix{nil, {}} {
		for _, s := range each() {
			checkOne(t, l, act(s), nil)
			for _, other := range each() {
				checkAll(t, l, acts(s, other), nil)
			}
		}
		checkAll(t, l, nil, nil)
		checkAll(t, l, []api.Action{}, nil)
	}
	for _, l := range [][]api.Fix{sample(), table("x 3 2"), table("! 0 -1"), table("x 0 0, x 9999 0")} {
		checkAll(t, l, nil, l)
		checkAll(t, l, []api.Action{}, l)
	}
}

// P17.2: two actions, and three, written out: the last one comes first.
func TestAll(t *testing.T) {
	l := table("a 5 1, x 4 60, x 5 30, x 6 31, y 4 1, y 5 8, y 6 9")
	split, stock, cash := "split s1 x 5 5 5 2", "stock k1 x 5 5 5 1/2", "cash d1 x 5 5 5 3"
	for _, c := range []struct {
		done []string
		want string
	}{
		// Of one asset, on one day.
		{[]string{split, cash}, "x 4 60, x 5 66, x 6 68"}, {[]string{cash, split}, "x 4 60, x 5 63, x 6 65"},
		{[]string{split, split}, "x 4 60, x 5 120, x 6 124"}, {[]string{cash, cash}, "x 4 60, x 5 36, x 6 37"},
		{[]string{split, stock, cash}, "x 4 60, x 5 99, x 6 102"}, {[]string{split, cash, stock}, "x 4 60, x 5 96, x 6 99"}, {[]string{stock, cash, split}, "x 4 60, x 5 189/2, x 6 195/2"},
		{[]string{cash, split, stock}, "x 4 60, x 5 93, x 6 96"}, {[]string{cash, stock, split}, "x 4 60, x 5 93, x 6 96"}, {[]string{stock, split, cash}, "x 4 60, x 5 99, x 6 102"},
		// Of one asset, on several days, in both orders.
		{[]string{"split s1 x 5 5 5 2", "cash d1 x 6 6 6 3"}, "x 4 60, x 5 60, x 6 68"}, {[]string{"cash d1 x 6 6 6 3", "split s1 x 5 5 5 2"}, "x 4 60, x 5 60, x 6 65"},
		{[]string{"split s1 x 6 6 6 2", "cash d1 x 5 5 5 3"}, "x 4 60, x 5 33, x 6 68"}, {[]string{"cash d1 x 5 5 5 3", "split s1 x 6 6 6 2"}, "x 4 60, x 5 33, x 6 65"},
		{[]string{"cash d1 x 4 4 4 1", "cash d1 x 5 5 5 1/2", "split s1 x 6 6 6 2"}, "x 4 61, x 5 63/2, x 6 127/2"}, {[]string{"split s1 x 6 6 6 2", "cash d1 x 5 5 5 1/2", "cash d1 x 4 4 4 1"}, "x 4 61, x 5 63/2, x 6 65"},
		// Spins and mergers behind one another.
		{[]string{"spin p1 x 5 5 5 y 2", split}, "x 4 60, x 5 76, x 6 80"}, {[]string{split, "spin p1 x 5 5 5 y 2"}, "x 4 60, x 5 92, x 6 98"},
		{[]string{"merger m1 x 5 5 5 y 2 1", split}, "x 4 60, x 5 17, x 6 19"}, {[]string{split, "merger m1 x 5 5 5 y 2 1"}, "x 4 60, x 5 34, x 6 38"},
		{[]string{"spin p1 x 5 5 5 a 2", split}, "x 4 60, x 5 62"}, {[]string{split, "merger m1 x 6 6 6 a 2 1"}, "x 4 60, x 5 60"}, {[]string{"merger m1 x 6 6 6 a 2 1", "split s1 x 4 5 5 2"}, "x 4 120, x 5 60"},
		{[]string{"merger m1 x 5 5 5 y 2 1", "merger m1 x 5 5 5 none 2 1"}, "x 4 60, x 5 17, x 6 19"}, {[]string{"merger m1 x 5 5 5 none 2 1", "merger m1 x 5 5 5 y 2 1"}, "x 4 60"}, {[]string{cash, "merger m1 x 5 5 5 none 2 1"}, "x 4 60"},
	} {
		checkAll(t, l, acts(c.done...), with(l, "x", c.want))
	}
}

// P17.2: actions whose assets are one another's Other, on the same day and on several, in both orders.
func TestOthers(t *testing.T) {
	l := table("x 4 60, x 5 30, x 6 31, y 4 1, y 5 8, y 6 9, z 5 100")
	for _, c := range []struct {
		done []string
		want string
	}{
		{[]string{"merger m1 x 5 5 5 y 2 1", "split s1 y 5 5 5 3"}, "x 4 60, x 5 49, x 6 55, y 4 1, y 5 24, y 6 27, z 5 100"},
		{[]string{"split s1 y 5 5 5 3", "merger m1 x 5 5 5 y 2 1"}, "x 4 60, x 5 17, x 6 19, y 4 1, y 5 24, y 6 27, z 5 100"},
		{[]string{"spin p1 x 5 5 5 y 2", "cash d1 y 5 5 5 3"}, "x 4 60, x 5 52, x 6 55, y 4 1, y 5 11, y 6 12, z 5 100"},
		{[]string{"cash d1 y 5 5 5 3", "spin p1 x 5 5 5 y 2"}, "x 4 60, x 5 46, x 6 49, y 4 1, y 5 11, y 6 12, z 5 100"},
		{[]string{"spin p1 y 5 5 5 x 2", "cash d1 x 5 5 5 3"}, "x 4 60, x 5 33, x 6 34, y 4 1, y 5 74, y 6 77, z 5 100"},
		{[]string{"spin p1 x 5 5 5 y 2", "spin p2 y 5 5 5 x 1"}, "x 4 60, x 5 106, x 6 111, y 4 1, y 5 38, y 6 40, z 5 100"},
		{[]string{"spin p2 y 5 5 5 x 1", "spin p1 x 5 5 5 y 2"}, "x 4 60, x 5 46, x 6 49, y 4 1, y 5 54, y 6 58, z 5 100"},
		{[]string{"spin p1 x 5 5 5 y 2", "spin p2 y 6 6 6 x 1"}, "x 4 60, x 5 46, x 6 111, y 4 1, y 5 8, y 6 40, z 5 100"},
		{[]string{"spin p2 y 6 6 6 x 1", "spin p1 x 5 5 5 y 2"}, "x 4 60, x 5 46, x 6 49, y 4 1, y 5 8, y 6 58, z 5 100"},
		{[]string{"merger m1 x 5 5 5 y 2 1", "merger m2 y 5 5 5 x 1 4"}, "x 4 60, x 5 69, x 6 71, y 4 1, y 5 34, y 6 35, z 5 100"},
		{[]string{"merger m2 y 5 5 5 x 1 4", "merger m1 x 5 5 5 y 2 1"}, "x 4 60, x 5 17, x 6 19, y 4 1, y 5 21, y 6 23, z 5 100"},
		{[]string{"merger m1 x 4 5 5 y 2 1", "merger m2 y 6 6 6 x 1 4"}, "x 4 3, x 5 17, x 6 71, y 4 1, y 5 8, y 6 35, z 5 100"},
		{[]string{"merger m2 y 6 6 6 x 1 4", "merger m1 x 4 5 5 y 2 1"}, "x 4 3, x 5 17, x 6 19, y 4 1, y 5 8, y 6 23, z 5 100"},
		// Around, over three assets; a price that an earlier one takes away is missing in the next one.
		{[]string{"merger m1 x 5 5 5 y 1 1", "merger m2 y 5 5 5 z 1 1", "split s1 z 5 5 5 2"}, "x 4 60, x 5 202, y 4 1, y 5 201, z 5 200"},
		{[]string{"split s1 z 5 5 5 2", "merger m2 y 5 5 5 z 1 1", "merger m1 x 5 5 5 y 1 1"}, "x 4 60, x 5 9, x 6 10, y 4 1, y 5 101, z 5 200"},
		{[]string{"merger m1 x 5 5 5 y 1 1", "merger m2 y 5 5 5 z 1 1", "merger m3 z 5 5 5 x 1 1"}, "x 4 60, x 5 33, x 6 34, y 4 1, y 5 32, y 6 33, z 5 31, z 6 32"},
		{[]string{"merger m3 z 5 5 5 x 1 1", "merger m2 y 5 5 5 z 1 1", "merger m1 x 5 5 5 y 1 1"}, "x 4 60, x 5 9, x 6 10, y 4 1, y 5 101, z 5 10, z 6 11"},
		{[]string{"spin p1 x 5 5 5 y 1", "merger m2 y 6 6 6 z 1 1", "cash d1 z 5 5 5 1"}, "x 4 60, x 5 38, y 4 1, y 5 8, z 5 101"},
	} {
		checkAll(t, l, acts(c.done...), table(c.want))
	}
}

// notNumbers answers Rats that may not be.
func notNumbers() []api.Rat {
	return []api.Rat{
		{}, {Num: "1"}, {Den: "1"}, {Num: "0", Den: "0"}, {Num: "1", Den: "0"}, {Num: "0", Den: "2"}, {Num: "-0", Den: "1"}, {Num: "1", Den: "-1"}, {Num: "2", Den: "2"}, {Num: "-6", Den: "9"}, {Num: "01", Den: "1"}, {Num: "+1", Den: "1"}, {Num: "1.5", Den: "1"}, {Num: "a", Den: "1"}, {Num: "1", Den: " 1"},
		{Num: strings.Repeat("3", 3000), Den: strings.Repeat("6", 3000)}, {Num: strings.Repeat("x", 1<<16), Den: "1"},
	}
}

// notTables answers tables that may not be: with a fix twice, not in order, or one that may not be.
func notTables() [][]api.Fix {
	good := sample()
	out := [][]api.Fix{{{}}, {{}, {}}, append(slices.Clone(good), api.Fix{}), slices.Insert(slices.Clone(good), 0, api.Fix{})}
	for i, f := range good {
		twice := f
		twice.P = num("77")
		out = append(out, []api.Fix{f, f}, slices.Insert(slices.Clone(good), i, f), slices.Insert(slices.Clone(good), i, twice), slices.Insert(slices.Clone(good), i+1, twice))
		if i > 0 {
			turned := slices.Clone(good)
			turned[i-1], turned[i] = turned[i], turned[i-1]
			out = append(out, turned)
		}
		for _, day := range []int{-1, 10000, math.MinInt, math.MaxInt, f.Day + 1<<32} {
			other := slices.Clone(good)
			other[i].Day = day
			out = append(out, other)
		}
		for _, asset := range []string{"", "X", "x!", f.Asset + " ", "é", strings.Repeat("x", 21), strings.Repeat("x", 1<<16)} {
			other := slices.Clone(good)
			other[i].Asset = asset
			out = append(out, other)
		}
		for _, p := range notNumbers() {
			other := slices.Clone(good)
			other[i].P = p
			out = append(out, other)
		}
	}
	return out
}

// P17.1, P17.2: of a table that may not be there is nothing, whatever the actions are.
func TestTablesThatMayNotBe(t *testing.T) {
	far := acts("split s1 x 9999 9999 9999 2", "merger m1 q 9999 9999 9999 none 1 1", "split s1 q 0 0 0 1")
	for _, l := range notTables() {
		for _, s := range each() {
			a := act(s)
			check(t, s, l, nil, func(l []api.Fix) []api.Fix { return neutral.One(l, a) })
		}
		for _, a := range far {
			check(t, "far", l, nil, func(l []api.Fix) []api.Fix { return neutral.One(l, a) })
		}
		for _, done := range [][]api.Action{nil, {}, acts(each()[0]), acts(each()...), far, {{}}} {
			check(t, "All", l, nil, func(l []api.Fix) []api.Fix { return neutral.All(l, done) })
		}
	}
}

// notActions answers actions that may not be, of each kind.
func notActions() []api.Action {
	out := []api.Action{{}, {Kind: -1}, {Kind: api.Acts}}
	for _, s := range each() {
		for _, turn := range []func(a *api.Action){
			func(a *api.Action) { a.Name = "" }, func(a *api.Action) { a.Name = "A" }, func(a *api.Action) { a.Name = strings.Repeat("a", 21) },
			func(a *api.Action) { a.Asset = "" }, func(a *api.Action) { a.Asset = "cash" }, func(a *api.Action) { a.Asset = "!" }, func(a *api.Action) { a.Asset = "0" }, func(a *api.Action) { a.Asset = strings.Repeat("x", 1<<16) },
			func(a *api.Action) { a.Other = "cash" }, func(a *api.Action) { a.Other = "x" }, func(a *api.Action) { a.Other = "!" }, func(a *api.Action) { a.Other = "Y" },
			func(a *api.Action) { a.Kind = -1 }, func(a *api.Action) { a.Kind = api.Acts }, func(a *api.Action) { a.Kind = math.MaxInt }, func(a *api.Action) { a.Kind = math.MinInt },
			func(a *api.Action) { a.Ex = -1 }, func(a *api.Action) { a.Ex = math.MinInt }, func(a *api.Action) { a.Ex = 7 }, func(a *api.Action) { a.Record = 10 }, func(a *api.Action) { a.Record = 4 }, func(a *api.Action) { a.Pay = 10000 }, func(a *api.Action) { a.Pay = 5 }, func(a *api.Action) { a.Ex, a.Record, a.Pay = 10000, 10000, 10000 },
			func(a *api.Action) { a.Ratio = api.Rat{} }, func(a *api.Action) { a.Cash = api.Rat{} }, func(a *api.Action) { a.Ratio = num("-1") }, func(a *api.Action) { a.Cash = num("-1") }, func(a *api.Action) { a.Ratio = num("1" + nines) }, func(a *api.Action) { a.Cash = num("1/1" + nines) }, func(a *api.Action) { a.Ratio, a.Cash = num("0"), num("0") },
			func(a *api.Action) { a.Ratio = api.Rat{Num: "2", Den: "2"} }, func(a *api.Action) { a.Cash = api.Rat{Num: "0", Den: "2"} },
		} {
			a := act(s)
			turn(&a)
			out = append(out, a)
		}
	}
	return out
}

// P17.1, P17.2: of an action that may not be, alone or at any place among others, there is nothing.
func TestActionsThatMayNotBe(t *testing.T) {
	tables := [][]api.Fix{sample(), nil, {}, table("x 5 1"), table("q 0 1"), table("q 9999 1, x 0 0")}
	for _, a := range notActions() {
		if action.May(a) {
			t.Fatalf("%.300v may be", a)
		}
		for _, l := range tables {
			check(t, "One", l, nil, func(l []api.Fix) []api.Fix { return neutral.One(l, a) })
		}
		for i := range 4 {
			good := acts("split s1 x 5 5 5 2", "cash d1 q 9999 9999 9999 1", "merger m1 y 5 6 7 x 1 1")
			done := slices.Insert(slices.Clone(good), i, a)
			for _, l := range tables {
				check(t, "All", l, nil, func(l []api.Fix) []api.Fix { return neutral.All(l, done) })
				check(t, "All", l, nil, func(l []api.Fix) []api.Fix { return neutral.All(l, []api.Action{a, a}) })
				check(t, "All", l, nil, func(l []api.Fix) []api.Fix { return neutral.All(l, []api.Action{a}) })
			}
			for _, bad := range [][]api.Fix{{{}}, table("y 5 1, x 5 1")} {
				check(t, "All", bad, nil, func(l []api.Fix) []api.Fix { return neutral.All(l, done) })
			}
		}
	}
}
