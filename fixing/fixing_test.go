package fixing_test

import (
	"math"
	"math/big"
	"math/rand"
	"slices"
	"strconv"
	"strings"
	"testing"

	"debenture/api"
	"debenture/fixing"
)

const alphabet = "abcdefghijklmnopqrstuvwxyz0123456789"

// fix answers a fix, its price from a text.
func fix(asset string, day int, p string) api.Fix {
	x, is := new(big.Rat).SetString(p)
	if !is {
		panic(p)
	}
	return api.Fix{Asset: asset, Day: day, P: api.Rat{Num: x.Num().String(), Den: x.Denom().String()}}
}

// sample answers a table: of assets of which one is the begin of the other, of one fix and of several, on the first and the last day, and with prices of many kinds.
func sample() []api.Fix {
	return []api.Fix{
		fix("!", 5, "1"),
		fix("!x", 0, "2"), fix("!x", 9999, "3"),
		fix("0", 5, "1/2"),
		fix("a", 9998, "-1/3"),
		fix("x", 2, "0"), fix("x", 3, "7"), fix("x", 5, "7"), fix("x", 10, "-5/2"), fix("x", 100, "1/100"), fix("x", 9000, "10000000000000000000000000"),
		fix("xx", 3, "-1"), fix("xx", 7, "4/3"),
		fix("xy", 0, "0"), fix("xy", 1, "8"),
		fix("zzzzzzzzzzzzzzzzzzzz", 0, "-99999999999999999999/100000000000000000000"), fix("zzzzzzzzzzzzzzzzzzzz", 9999, "6"),
	}
}

// tables answers tables that may be, of no fix, of one, and of more.
func tables() [][]api.Fix {
	good := sample()
	out := [][]api.Fix{nil, {}, good}
	for i := range good {
		out = append(out, good[i:i+1], good[i:], good[:i], slices.Delete(slices.Clone(good), i, i+1))
	}
	return append(out, []api.Fix{fix("x", 5, "0"), fix("y", 5, "0")}, []api.Fix{fix("x", 9999, "1"), fix("y", 0, "1")}, []api.Fix{fix("x", 9999, "1"), fix("xx", 0, "1")})
}

// assets answers texts that are names.
func assets() []string {
	return []string{
		"a", "z", "m", "0", "9", "!", "!a", "!0", "x", "cash", "!issuer", "a0", "0a", "00", "007", "zz9", "abcxyz0189",
		strings.Repeat("a", 20), strings.Repeat("0", 20), strings.Repeat("z", 19), "!" + strings.Repeat("9", 19), "!" + strings.Repeat("z", 18), alphabet[:20],
	}
}

// notAssets answers texts that are none.
func notAssets() []string {
	return []string{
		"", strings.Repeat("a", 21), "!" + strings.Repeat("a", 20), alphabet[:21], strings.Repeat("x", 21), strings.Repeat("a", 3000), strings.Repeat("!", 3000),
		"!!", "!!a", "a!", "x!", "a!b", "!a!", "0!", strings.Repeat("a", 19) + "!", strings.Repeat("a", 20) + "!",
		"A", "X", "Z", "aB", "!A", "-", "-a", "a-b", "_", "a_b", ".", "a.b", " ", "a b", " x", "x ", "x\n", "\t", "\x00", "x\x00", "/", ":", "`", "{", "@", "[", "a/", "a:", "a`", "a{", "\"",
		"\xff", "x\xff", "\xe4", "\u00e4", "\u0661", "a\u0301", "\uff41", "\u00df",
	}
}

// notDays answers days that may not be.
func notDays() []int {
	return []int{-1, -2, -9999, 10000, 10001, 99999, 1 << 32, 1<<32 + 5, -1 << 32, math.MaxInt, math.MinInt}
}

// notPrices answers Rats that may not be.
func notPrices() []api.Rat {
	return []api.Rat{
		{}, {Num: "1"}, {Den: "1"}, {Num: "0"}, {Num: "0", Den: "0"}, {Num: "1", Den: "0"}, {Num: "-1", Den: "0"}, {Num: "0", Den: "2"}, {Num: "-0", Den: "1"}, {Num: "1", Den: "-1"}, {Num: "-1", Den: "-2"},
		{Num: "2", Den: "2"}, {Num: "2", Den: "4"}, {Num: "-6", Den: "9"}, {Num: "01", Den: "1"}, {Num: "-01", Den: "2"}, {Num: "00", Den: "1"}, {Num: "1", Den: "01"}, {Num: "+1", Den: "1"}, {Num: "1", Den: "+1"}, {Num: "1.5", Den: "1"}, {Num: "a", Den: "1"}, {Num: "1", Den: "a"}, {Num: " 1", Den: "1"},
		{Num: strings.Repeat("3", 3000), Den: strings.Repeat("7", 3000)},
	}
}

// notFixes answers fixes that may not be: with an asset, a day or a price that may not, and with several of these.
func notFixes() []api.Fix {
	out := []api.Fix{{}, {Asset: "x", Day: 7}, {Day: 7, P: api.Rat{Num: "1", Den: "1"}}, {Asset: "X", Day: -1}}
	for _, asset := range notAssets() {
		out = append(out, fix(asset, 7, "1"), fix(asset, 0, "0"), fix(asset, 9999, "-1/2"), fix(asset, 10000, "1"))
	}
	for _, day := range notDays() {
		out = append(out, fix("x", day, "1"), fix("a", day, "0"), fix("new", day, "-1/2"), fix("", day, "1"))
	}
	for _, p := range notPrices() {
		out = append(out, api.Fix{Asset: "x", Day: 7, P: p}, api.Fix{Asset: "new", Day: 0, P: p}, api.Fix{Asset: "zzzz", Day: 9999, P: p}, api.Fix{Asset: "x", Day: -1, P: p})
	}
	return out
}

// compare holds assets, and then days, against each other, for tests to sort by.
func compare(f, g api.Fix) int {
	if f.Asset != g.Asset {
		return strings.Compare(f.Asset, g.Asset)
	}
	if f.Day < g.Day {
		return -1
	}
	if f.Day > g.Day {
		return 1
	}
	return 0
}

// notTables answers tables that may not be: with a fix twice, not in order, or with one that may not be.
func notTables() [][]api.Fix {
	var out [][]api.Fix
	good := sample()
	for i := range good {
		other := good[i]
		other.P = api.Rat{Num: "77", Den: "1"}
		out = append(out, slices.Insert(slices.Clone(good), i, good[i]), slices.Insert(slices.Clone(good), i, other), slices.Insert(slices.Clone(good), i+1, other), []api.Fix{good[i], good[i]}, []api.Fix{good[i], other})
		if i > 0 {
			swapped := slices.Clone(good)
			swapped[i-1], swapped[i] = swapped[i], swapped[i-1]
			out = append(out, swapped, swapped[i-1:i+1], append(slices.Clone(good), good[i-1]), slices.Insert(slices.Clone(good), 0, good[i]))
		}
	}
	for _, f := range notFixes() {
		ordered := append(sample(), f)
		slices.SortStableFunc(ordered, compare)
		out = append(out, []api.Fix{f}, ordered)
		for _, i := range []int{0, 6, len(good) - 1} {
			bad := slices.Clone(good)
			bad[i].P = f.P
			bad[i].Asset, bad[i].Day = f.Asset, f.Day
			out = append(out, bad)
		}
	}
	for _, i := range []int{0, 6, len(good) - 1} {
		for _, p := range notPrices() {
			bad := slices.Clone(good)
			bad[i].P = p
			out = append(out, bad)
		}
	}
	slices.Reverse(good)
	return append(out, good,
		[]api.Fix{fix("x", 6, "1"), fix("x", 5, "1")}, []api.Fix{fix("x", 5, "1"), fix("x", 5, "2")}, []api.Fix{fix("x", 5, "1"), fix("x", 5, "1")},
		[]api.Fix{fix("y", 5, "1"), fix("x", 5, "1")}, []api.Fix{fix("y", 1, "1"), fix("x", 9, "1")}, []api.Fix{fix("xx", 1, "1"), fix("x", 9, "1")}, []api.Fix{fix("x", 1, "1"), fix("!x", 9, "1")},
		[]api.Fix{fix("x", 10, "1"), fix("x", 9, "1")}, []api.Fix{fix("x", 5, "1"), fix("y", 5, "1"), fix("x", 6, "1")},
	)
}

// key is what a fix is of.
type key struct {
	asset string
	day   int
}

// known answers the prices of a table by asset and day.
func known(l []api.Fix) map[key]api.Rat {
	out := map[key]api.Rat{}
	for _, f := range l {
		out[key{f.Asset, f.Day}] = f.P
	}
	return out
}

// latest answers by a second reading the latest day of the asset up to that one, and whether there is one.
func latest(l []api.Fix, asset string, day int) (int, bool) {
	found, is := 0, false
	for _, f := range l {
		if f.Asset == asset && f.Day <= day && (!is || f.Day > found) {
			found, is = f.Day, true
		}
	}
	return found, is
}

// checkPrices holds Get and Last of that asset and day against a second reading.
func checkPrices(t *testing.T, l []api.Fix, asset string, day int) {
	t.Helper()
	prices := known(l)
	want, there := prices[key{asset, day}]
	if got, is := fixing.Get(l, asset, day); got != want || is != there {
		t.Fatalf("Get(%v, %q, %d): %v, %t", l, asset, day, got, is)
	}
	found, there := latest(l, asset, day)
	want = api.Rat{}
	if there {
		want = prices[key{asset, found}]
	}
	if got, is := fixing.Last(l, asset, day); got != want || is != there {
		t.Fatalf("Last(%v, %q, %d): %v, %t", l, asset, day, got, is)
	}
}

// set answers l with f set, which has to may be, and to leave l as it was.
func set(t *testing.T, l []api.Fix, f api.Fix) []api.Fix {
	t.Helper()
	before := slices.Clone(l)
	out, is := fixing.Set(l, f)
	if !is || !fixing.May(out) || len(out) != len(l)+1 {
		t.Fatalf("Set(%v, %v): %v, %t", l, f, out, is)
	}
	if !slices.Equal(l, before) {
		t.Fatalf("Set(%v, %v) leaves %v", before, f, l)
	}
	return out
}

// refused holds that f cannot be set, and that l stays.
func refused(t *testing.T, l []api.Fix, f api.Fix) {
	t.Helper()
	before := slices.Clone(l)
	if got, is := fixing.Set(l, f); got != nil || is {
		t.Fatalf("Set(%v, %#v): %v, %t", l, f, got, is)
	}
	if !slices.Equal(l, before) {
		t.Fatalf("Set of %#v leaves %v of %v", f, l, before)
	}
}

// P12.1
func TestMay(t *testing.T) {
	for _, l := range tables() {
		before := slices.Clone(l)
		if !fixing.May(l) {
			t.Errorf("May(%v) is false", l)
		}
		if !slices.Equal(l, before) {
			t.Errorf("May leaves %v of %v", l, before)
		}
	}
	for _, asset := range assets() {
		for _, day := range []int{0, 1, 5000, 9998, 9999} {
			for _, p := range []string{"0", "1", "-1", "-1/2", "22/7", "100000000000000000000000"} {
				if !fixing.May([]api.Fix{fix(asset, day, p)}) {
					t.Errorf("May of %q on day %d at %s is false", asset, day, p)
				}
			}
		}
	}
}

// P12.1
func TestMayOfWrongTables(t *testing.T) {
	for _, l := range notTables() {
		before := slices.Clone(l)
		if fixing.May(l) {
			t.Errorf("May(%#v) is true", l)
		}
		if !slices.Equal(l, before) {
			t.Errorf("May leaves %v of %v", l, before)
		}
	}
}

// P12.1: every byte at every place of every length of an asset.
func TestAssetsByBytes(t *testing.T) {
	for length := 1; length <= 23; length++ {
		for place := range length {
			for c := range 256 {
				text := []byte(strings.Repeat("k", length))
				text[place] = byte(c)
				f := fix(string(text), 5, "1")
				want := length <= 20 && (strings.IndexByte(alphabet, byte(c)) >= 0 || c == '!' && place == 0)
				_, is := fixing.Set(nil, f)
				if fixing.May([]api.Fix{f}) != want || is != want {
					t.Errorf("of %q: %t, %t", text, !want, is)
				}
			}
		}
	}
}

// P12.1: every day from far ahead of the first one to far behind the last one, of a fix and of two.
func TestDays(t *testing.T) {
	for day := -300; day <= 10300; day++ {
		f := fix("x", day, "1")
		want := day >= 0 && day <= 9999
		_, is := fixing.Set(nil, f)
		if fixing.May([]api.Fix{f}) != want || is != want {
			t.Errorf("on day %d: %t, %t", day, !want, is)
		}
		if got, rise := fixing.May([]api.Fix{fix("x", 5000, "1"), f}), want && day > 5000; got != rise {
			t.Errorf("on day 5000, and on day %d: %t", day, got)
		}
		if got := fixing.May([]api.Fix{fix("x", 5000, "1"), {Asset: "y", Day: day, P: f.P}}); got != want {
			t.Errorf("x on day 5000, and y on day %d: %t", day, got)
		}
	}
}

// P12.1
func TestGetAndLast(t *testing.T) {
	l := sample()
	for _, c := range []struct {
		asset     string
		day       int
		get, last string
	}{
		{"x", 2, "0", "0"}, {"x", 3, "7", "7"}, {"x", 4, "", "7"}, {"x", 5, "7", "7"}, {"x", 6, "", "7"}, {"x", 9, "", "7"}, {"x", 10, "-5/2", "-5/2"}, {"x", 11, "", "-5/2"}, {"x", 99, "", "-5/2"}, {"x", 100, "1/100", "1/100"}, {"x", 9999, "", "10000000000000000000000000"},
		{"x", 1, "", ""}, {"x", 0, "", ""}, {"x", -1, "", ""}, {"x", 10000, "", "10000000000000000000000000"}, {"x", math.MaxInt, "", "10000000000000000000000000"}, {"x", math.MinInt, "", ""},
		{"!", 4, "", ""}, {"!", 5, "1", "1"}, {"!", 6, "", "1"}, {"!x", 0, "2", "2"}, {"!x", 9998, "", "2"}, {"!x", 9999, "3", "3"}, {"!x", -1, "", ""},
		{"0", 4, "", ""}, {"0", 9999, "", "1/2"}, {"a", 9997, "", ""}, {"a", 9998, "-1/3", "-1/3"}, {"a", 9999, "", "-1/3"},
		{"xx", 2, "", ""}, {"xx", 3, "-1", "-1"}, {"xx", 6, "", "-1"}, {"xx", 7, "4/3", "4/3"}, {"xy", 0, "0", "0"}, {"xy", 1, "8", "8"}, {"xy", 2, "", "8"},
		{"zzzzzzzzzzzzzzzzzzzz", 0, "-99999999999999999999/100000000000000000000", "-99999999999999999999/100000000000000000000"}, {"zzzzzzzzzzzzzzzzzzzz", 9999, "6", "6"},
		{"w", 5, "", ""}, {"y", 5, "", ""}, {"xxx", 5, "", ""}, {"b", 9999, "", ""}, {"aa", 9999, "", ""}, {"!0", 9999, "", ""}, {"!y", 9999, "", ""}, {"zzzzzzzzzzzzzzzzzzz", 9999, "", ""}, {"zzzzzzzzzzzzzzzzzzzzz", 9999, "", ""},
		{"", 5, "", ""}, {"X", 5, "", ""}, {"x ", 5, "", ""}, {"x\x00", 9999, "", ""}, {"\xff", 9999, "", ""},
	} {
		for i, text := range []string{c.get, c.last} {
			var want api.Rat
			if text != "" {
				want = fix("", 0, text).P
			}
			ask := []func([]api.Fix, string, int) (api.Rat, bool){fixing.Get, fixing.Last}[i]
			if got, is := ask(l, c.asset, c.day); got != want || is != (text != "") {
				t.Errorf("%s of %q on day %d: %v, %t", []string{"Get", "Last"}[i], c.asset, c.day, got, is)
			}
		}
	}
	if !slices.Equal(l, sample()) {
		t.Errorf("the table became %v", l)
	}
}

// P12.1: of every table, every asset that it has, those beside them, and others, on the days of all fixes, and on those beside them.
func TestGetAndLastOfTables(t *testing.T) {
	asked := slices.Concat(assets(), notAssets(), []string{"xx", "xxx", "xy", "xz", "w", "y", "!x", "!w", "zzzzzzzzzzzzzzzzzzzz", "zzzzzzzzzzzzzzzzzzz0"})
	var days []int
	for _, f := range sample() {
		days = append(days, f.Day-1, f.Day, f.Day+1)
	}
	days = append(append(days, notDays()...), 9998, 5000)
	for _, l := range tables() {
		for _, asset := range asked {
			for _, day := range days {
				checkPrices(t, l, asset, day)
			}
		}
	}
}

// P12.1: of a table that may not be there is no price, even where the asked one stands.
func TestPricesOfWrongTables(t *testing.T) {
	for _, l := range notTables() {
		before := slices.Clone(l)
		asked := append(slices.Clone(l), fix("x", 5, "1"), fix("x", 9999, "1"), fix("w", 5, "1"), fix("", 0, "1"))
		for _, f := range asked {
			for _, day := range []int{f.Day, 9999, math.MaxInt} {
				if got, is := fixing.Get(l, f.Asset, day); got != (api.Rat{}) || is {
					t.Fatalf("Get(%#v, %q, %d): %v, %t", l, f.Asset, day, got, is)
				}
				if got, is := fixing.Last(l, f.Asset, day); got != (api.Rat{}) || is {
					t.Fatalf("Last(%#v, %q, %d): %v, %t", l, f.Asset, day, got, is)
				}
			}
		}
		if !slices.Equal(l, before) {
			t.Errorf("%v became %v", before, l)
		}
	}
}

// P12.2
func TestSet(t *testing.T) {
	l := []api.Fix{fix("a", 5, "2"), fix("x", 3, "1/2"), fix("x", 6, "-3"), fix("y", 4, "0")}
	for _, c := range []struct {
		f     api.Fix
		place int
	}{
		{fix("!", 5, "1"), 0}, {fix("0", 9999, "0"), 0}, {fix("a", 0, "1"), 0}, {fix("a", 4, "-1"), 0},
		{fix("a", 6, "2"), 1}, {fix("a", 9999, "1"), 1}, {fix("aa", 0, "1"), 1}, {fix("w", 5, "1/3"), 1}, {fix("x", 0, "1"), 1}, {fix("x", 2, "1/2"), 1},
		{fix("x", 4, "9"), 2}, {fix("x", 5, "0"), 2}, {fix("x", 7, "1"), 3}, {fix("x", 9999, "-1/7"), 3}, {fix("x", 10, "1"), 3}, {fix("x0", 0, "1"), 3}, {fix("xx", 4, "1"), 3}, {fix("y", 3, "1"), 3},
		{fix("y", 5, "1"), 4}, {fix("y", 9999, "1"), 4}, {fix("y0", 0, "1"), 4}, {fix("z", 4, "1"), 4}, {fix("zzzzzzzzzzzzzzzzzzzz", 0, "100000000000000000000"), 4},
	} {
		if got := set(t, l, c.f); !slices.Equal(got, slices.Insert(slices.Clone(l), c.place, c.f)) {
			t.Errorf("Set of %v: %v", c.f, got)
		}
	}
	for _, f := range []api.Fix{fix("x", 5, "7"), fix("!", 0, "0"), fix("zzzzzzzzzzzzzzzzzzzz", 9999, "-1/3")} {
		for _, empty := range [][]api.Fix{nil, {}, make([]api.Fix, 0, 5), sample()[:0]} {
			if got := set(t, empty, f); !slices.Equal(got, []api.Fix{f}) {
				t.Errorf("Set of %v to nothing: %v", f, got)
			}
		}
	}
}

// P12.2: every fix of a table, taken away, is set at its place again.
func TestSetOfEach(t *testing.T) {
	good := sample()
	for i, f := range good {
		if got := set(t, slices.Delete(slices.Clone(good), i, i+1), f); !slices.Equal(got, good) {
			t.Errorf("Set of %v: %v", f, got)
		}
		if got := set(t, good[:i], f); !slices.Equal(got, good[:i+1]) {
			t.Errorf("Set of %v at the end: %v", f, got)
		}
		if got := set(t, good[i+1:], f); !slices.Equal(got, good[i:]) {
			t.Errorf("Set of %v at the begin: %v", f, got)
		}
	}
}

// P12.2 and P12.3: what is fixed is not fixed again, at whatever price.
func TestSetAgain(t *testing.T) {
	for _, l := range tables() {
		for _, f := range l {
			refused(t, l, f)
			for _, p := range []string{"0", "1", "-1", "7", "1/3"} {
				refused(t, l, fix(f.Asset, f.Day, p))
			}
			for _, p := range notPrices() {
				refused(t, l, api.Fix{Asset: f.Asset, Day: f.Day, P: p})
			}
		}
	}
	once := set(t, nil, fix("x", 3, "5"))
	refused(t, once, fix("x", 3, "5"))
	refused(t, once, fix("x", 3, "6"))
}

// P12.2
func TestSetOfWrongFixes(t *testing.T) {
	for _, l := range [][]api.Fix{nil, {}, sample(), {fix("x", 5, "1")}, {fix("a", 5, "1"), fix("z", 5, "1")}} {
		for _, f := range notFixes() {
			refused(t, l, f)
		}
	}
	for _, asset := range assets() {
		for _, day := range []int{0, 9999} {
			if f := fix(asset, day, "-1/2"); !slices.Equal(set(t, nil, f), []api.Fix{f}) {
				t.Errorf("Set of %v", f)
			}
		}
	}
}

// P12.2: nothing is set to a table that may not be.
func TestSetToWrongTables(t *testing.T) {
	for _, l := range notTables() {
		for _, f := range []api.Fix{fix("!", 0, "1"), fix("x", 4, "1"), fix("x", 5, "1"), fix("new", 9999, "0"), fix("zzzzzzzzzzzzzzzzzzzz", 5, "-1"), {}} {
			refused(t, l, f)
		}
	}
}

// P12.3: a fix more is there, and changes no other one; of Last it changes only what is behind it, up to the asset's next one.
func TestOneMoreChangesNoOther(t *testing.T) {
	l := sample()
	for _, f := range []api.Fix{fix("!", 4, "9"), fix("!", 6, "9"), fix("0", 5000, "9"), fix("x", 0, "9"), fix("x", 4, "9"), fix("x", 9999, "9"), fix("xx", 0, "9"), fix("xx", 9, "9"), fix("w", 5, "9"), fix("y", 5, "9"), fix("zzzzzzzzzzzzzzzzzzzz", 1, "9")} {
		more := set(t, l, f)
		for _, old := range append(sample(), f) {
			if got, is := fixing.Get(more, old.Asset, old.Day); got != old.P || !is {
				t.Errorf("with %v, Get of %v: %v, %t", f, old, got, is)
			}
		}
		for _, asset := range []string{"!", "!x", "0", "a", "w", "x", "xx", "xy", "y", "z", "zzzzzzzzzzzzzzzzzzzz"} {
			for _, day := range []int{0, 1, 2, 3, 4, 5, 6, 7, 9, 10, 99, 100, 4999, 5000, 8999, 9000, 9998, 9999, 10000} {
				was, is := fixing.Last(l, asset, day)
				found, _ := latest(l, asset, day)
				if asset == f.Asset && day >= f.Day && (!is || found < f.Day) {
					was, is = f.P, true
				}
				if got, there := fixing.Last(more, asset, day); got != was || there != is {
					t.Errorf("with %v, Last of %q on day %d: %v, %t", f, asset, day, got, there)
				}
			}
		}
	}
}

// P12.3: two are set in any order the same.
func TestTwoInAnyOrder(t *testing.T) {
	more := []api.Fix{fix("!", 4, "9"), fix("!", 0, "1/9"), fix("0", 6, "-9"), fix("b", 5, "0"), fix("w", 5, "9"), fix("x", 0, "9"), fix("x", 4, "1"), fix("x", 6, "1"), fix("x", 9999, "2"), fix("xx", 6, "3"), fix("xx", 4, "3"), fix("y", 4, "3"), fix("zzzzzzzzzzzzzzzzzzzz", 1, "9")}
	for _, l := range [][]api.Fix{nil, sample(), sample()[5:8]} {
		for i, f := range more {
			for _, g := range more[:i] {
				one, other := set(t, set(t, l, f), g), set(t, set(t, l, g), f)
				want := append(append(slices.Clone(l), f), g)
				slices.SortFunc(want, compare)
				if !slices.Equal(one, want) || !slices.Equal(other, want) {
					t.Errorf("%v and %v: %v, and %v", f, g, one, other)
				}
			}
		}
	}
}

// randomFix answers one of few assets and days, so that many come together.
func randomFix(r *rand.Rand) api.Fix {
	few := []string{"!x", "0", "x", "x0", "xx", "y"}
	return fix(few[r.Intn(len(few))], r.Intn(12)*(1+r.Intn(2)), strconv.Itoa(r.Intn(9)-4)+"/"+strconv.Itoa(1+r.Intn(3)))
}

// P12.1 to P12.3: many fixes, one by one: the first one of an asset and a day stays, whatever comes.
func TestSetOfMany(t *testing.T) {
	r := rand.New(rand.NewSource(1))
	for range 60 {
		var l []api.Fix
		first := map[key]api.Fix{}
		for range r.Intn(100) {
			f := randomFix(r)
			k := key{f.Asset, f.Day}
			if _, there := first[k]; there {
				refused(t, l, f)
				continue
			}
			first[k] = f
			l = set(t, l, f)
		}
		var want []api.Fix
		for _, f := range first {
			want = append(want, f)
		}
		slices.SortFunc(want, compare)
		if !slices.Equal(l, want) {
			t.Fatalf("%v, not %v", l, want)
		}
		for _, asset := range []string{"!x", "0", "x", "x0", "xx", "y", "w", ""} {
			for day := -1; day < 26; day++ {
				checkPrices(t, l, asset, day)
			}
		}
		checkShuffled(t, r, l)
	}
}

// checkShuffled holds that fixes are set in any order the same.
func checkShuffled(t *testing.T, r *rand.Rand, l []api.Fix) {
	t.Helper()
	order := slices.Clone(l)
	r.Shuffle(len(order), func(i, j int) { order[i], order[j] = order[j], order[i] })
	var again []api.Fix
	for _, f := range order {
		again = set(t, again, f)
	}
	if !slices.Equal(again, l) {
		t.Fatalf("%v: %v", order, again)
	}
	if !slices.IsSortedFunc(order, compare) && fixing.May(order) {
		t.Fatalf("May(%v) is true", order)
	}
}

// R4: what is answered, and what it was answered of, may be written into without the other one changing, whatever room lies behind it.
func TestNothingIsShared(t *testing.T) {
	for _, f := range []api.Fix{fix("!", 0, "1"), fix("x", 4, "1"), fix("x", 9999, "1"), fix("y", 5, "1"), fix("zzzzzzzzzzzzzzzzzzzz", 9998, "1")} {
		roomy := make([]api.Fix, 0, 100)
		roomy = append(roomy, sample()...)
		got := set(t, roomy, f)
		want := slices.Clone(got)
		if roomy[:len(roomy)+1][len(roomy)] != (api.Fix{}) {
			t.Errorf("Set of %v wrote behind the table", f)
		}
		clear(roomy)
		if !slices.Equal(got, want) {
			t.Errorf("Set of %v shares the table", f)
		}
		roomy = append(roomy[:0], sample()...)
		clear(set(t, roomy, f))
		if !slices.Equal(roomy, sample()) {
			t.Errorf("Set of %v shares its answer", f)
		}
	}
	end := make([]api.Fix, 0, 100)
	end = append(end, sample()...)
	got := set(t, end[:5], fix("b", 0, "1"))
	if !slices.Equal(end, sample()) || len(got) != 6 {
		t.Error("Set wrote behind the end of a piece of a table")
	}
}

// R5: an empty table and none are the same.
func TestEmptyTables(t *testing.T) {
	for _, l := range [][]api.Fix{nil, {}, make([]api.Fix, 0, 5), sample()[:0]} {
		if !fixing.May(l) {
			t.Error("May of an empty table is false")
		}
		for _, asset := range []string{"x", "!", "", "X"} {
			for _, day := range []int{0, 5, 9999, -1, 10000, math.MaxInt, math.MinInt} {
				got, is := fixing.Get(l, asset, day)
				last, there := fixing.Last(l, asset, day)
				if got != (api.Rat{}) || is || last != (api.Rat{}) || there {
					t.Errorf("%q on day %d of an empty table: %v, %t, %v, %t", asset, day, got, is, last, there)
				}
			}
		}
		refused(t, l, api.Fix{})
	}
}

// R1, P1: tables of many fixes, long prices and long texts come to an end.
func TestLongOnes(t *testing.T) {
	var many []api.Fix
	for _, asset := range []string{"a", "b", "bb"} {
		for day := range 10000 {
			if day != 5000 {
				many = append(many, fix(asset, day, strconv.Itoa(day-5000)+"/7"))
			}
		}
	}
	if !fixing.May(many) {
		t.Error("May of many is false")
	}
	if got, is := fixing.Last(many, "b", 5000); got != fix("", 0, "-1/7").P || !is {
		t.Errorf("Last of many: %v, %t", got, is)
	}
	if got, is := fixing.Get(many, "b", 5000); got != (api.Rat{}) || is {
		t.Errorf("Get of none among many: %v, %t", got, is)
	}
	full := set(t, many, fix("b", 5000, "0"))
	if got, is := fixing.Get(full, "b", 5000); got != fix("", 0, "0").P || !is || len(full) != 29998 {
		t.Errorf("Get of one more: %v, %t", got, is)
	}
	many[20000].P = api.Rat{Num: "2", Den: "2"}
	if _, is := fixing.Get(many, "a", 1); is || fixing.May(many) {
		t.Error("one of many may not be")
	}
	nines := strings.Repeat("9", 10000)
	long := []api.Fix{fix("x", 5, "-"+nines), fix("x", 6, "1/"+nines)}
	if got, is := fixing.Last(long, "x", 9); !is || got.Den != nines || got.Num != "1" {
		t.Error("a long price")
	}
	huge := strings.Repeat("x", 1<<20)
	if _, is := fixing.Last(long, huge, 9); is || fixing.May([]api.Fix{fix(huge, 5, "1")}) {
		t.Error("a long name")
	}
	refused(t, long, fix(huge, 5, "1"))
}

// R3: what was asked before is not kept.
func TestAnswersAgain(t *testing.T) {
	for range 3 {
		l := sample()
		more := set(t, l, fix("x", 4, "1"))
		set(t, l, fix("x", 4, "2"))
		for _, c := range []struct {
			l    []api.Fix
			want api.Rat
			is   bool
		}{{l, api.Rat{}, false}, {more, fix("", 0, "1").P, true}, {notTables()[0], api.Rat{}, false}, {nil, api.Rat{}, false}} {
			if got, is := fixing.Get(c.l, "x", 4); got != c.want || is != c.is {
				t.Errorf("Get of x on day 4: %v, %t", got, is)
			}
		}
	}
}
