package action_test

import (
	"math"
	"math/big"
	"math/rand"
	"regexp"
	"slices"
	"strconv"
	"strings"
	"testing"

	"debenture/action"
	"debenture/api"
)

// of answers a number as the package has it.
func of(x *big.Rat) api.Rat {
	return api.Rat{Num: x.Num().String(), Den: x.Denom().String()}
}

// num answers the number of a text.
func num(s string) api.Rat {
	x, is := new(big.Rat).SetString(s)
	if !is {
		panic(s)
	}
	return of(x)
}

// power answers a number's power in digits.
func power(base, exponent int64) string {
	return new(big.Int).Exp(big.NewInt(base), big.NewInt(exponent), nil).String()
}

// Actions of each kind, on days 5, 6 and 9.

func split(ratio string) api.Action {
	return api.Action{Name: "s1", Kind: 0, Asset: "x", Ratio: num(ratio), Cash: num("0"), Ex: 5, Record: 6, Pay: 9}
}

func stock(ratio string) api.Action {
	return api.Action{Name: "k1", Kind: 1, Asset: "x", Ratio: num(ratio), Cash: num("0"), Ex: 5, Record: 6, Pay: 9}
}

func cash(cash string) api.Action {
	return api.Action{Name: "d1", Kind: 2, Asset: "x", Ratio: num("0"), Cash: num(cash), Ex: 5, Record: 6, Pay: 9}
}

func spin(ratio string) api.Action {
	return api.Action{Name: "p1", Kind: 3, Asset: "x", Other: "y", Ratio: num(ratio), Cash: num("0"), Ex: 5, Record: 6, Pay: 9}
}

func merger(ratio, cash string) api.Action {
	return api.Action{Name: "m1", Kind: 4, Asset: "x", Other: "y", Ratio: num(ratio), Cash: num(cash), Ex: 5, Record: 6, Pay: 9}
}

// kinds answers an action of each kind, at its place.
func kinds() []api.Action {
	return []api.Action{split("3/2"), stock("1/3"), cash("0.25"), spin("2"), merger("0.5", "2")}
}

// turned answers a with a thing about it changed.
func turned(a api.Action, turn func(a *api.Action)) api.Action {
	turn(&a)
	return a
}

// on answers a with other days.
func on(a api.Action, ex, record, pay int) api.Action {
	a.Ex, a.Record, a.Pay = ex, record, pay
	return a
}

// What a kind names, by a second reading.
var (
	words     = []string{"split", "stock", "cash", "spin", "merger"}
	hasOther  = []bool{false, false, false, true, true}
	hasRatio  = []bool{true, true, false, true, true}
	hasCash   = []bool{false, false, true, false, true}
	cashNone  = []bool{false, false, false, false, true}
	nameForm  = regexp.MustCompile(`^[!a-z0-9][a-z0-9]{0,19}$`)
	shareForm = regexp.MustCompile(`^[a-z][a-z0-9]{0,19}$`)
	wholeForm = regexp.MustCompile(`^(0|[1-9][0-9]{0,19})$`)
	aboveForm = regexp.MustCompile(`^[1-9][0-9]{0,19}$`)
	dayForm   = regexp.MustCompile(`^(0|[1-9][0-9]{0,3})$`)
	numForm   = regexp.MustCompile(`^(-?)0*([0-9]+)(?:\.([0-9]+)|/0*([1-9][0-9]*))?$`)
)

// mayNumber tells by a second reading whether x may be an action's number, and whether it is above 0.
func mayNumber(x api.Rat) (bool, bool) {
	if !wholeForm.MatchString(x.Num) || !aboveForm.MatchString(x.Den) {
		return false, false
	}
	return x == num(x.Num+"/"+x.Den), x.Num != "0"
}

// may tells by a second reading whether a may be.
func may(a api.Action) bool {
	if !nameForm.MatchString(a.Name) || !shareForm.MatchString(a.Asset) || a.Asset == "cash" || a.Kind < 0 || a.Kind > 4 {
		return false
	}
	if a.Ex < 0 || a.Record < a.Ex || a.Pay < a.Record || a.Pay > 9999 {
		return false
	}
	if hasOther[a.Kind] != (a.Other != "") || hasOther[a.Kind] && (!shareForm.MatchString(a.Other) || a.Other == a.Asset || a.Other == "cash") {
		return false
	}
	ratio, more := mayNumber(a.Ratio)
	if !ratio || more != hasRatio[a.Kind] {
		return false
	}
	paid, more := mayNumber(a.Cash)
	return paid && (more == hasCash[a.Kind] || cashNone[a.Kind])
}

// printNumber answers by a second reading the print of a number.
func printNumber(x api.Rat) string {
	n, _ := new(big.Rat).SetString(x.Num + "/" + x.Den)
	if places, is := n.FloatPrec(); is {
		return n.FloatString(places)
	}
	return x.Num + "/" + x.Den
}

// printed answers by a second reading the print of an action.
func printed(a api.Action) string {
	if !may(a) {
		return ""
	}
	s := words[a.Kind] + " " + a.Name + " " + a.Asset + " " + strconv.Itoa(a.Ex) + " " + strconv.Itoa(a.Record) + " " + strconv.Itoa(a.Pay)
	if hasOther[a.Kind] {
		s += " " + a.Other
	}
	if hasRatio[a.Kind] {
		s += " " + printNumber(a.Ratio)
	}
	if hasCash[a.Kind] {
		s += " " + printNumber(a.Cash)
	}
	return s
}

// saidDay answers by a second reading the day of a text, and whether it is one.
func saidDay(s string) (int, bool) {
	n, _ := strconv.Atoi(s)
	return n, dayForm.MatchString(s)
}

// saidNumber answers by a second reading the number of a text, and whether it is one.
func saidNumber(s string) (api.Rat, bool) {
	l := numForm.FindStringSubmatch(s)
	if l == nil || len(s) > 1000 {
		return api.Rat{}, false
	}
	x := l[1] + l[2]
	if l[3] != "" {
		x += "." + l[3]
	}
	if l[4] != "" {
		x += "/" + l[4]
	}
	return num(x), true
}

// said answers by a second reading the action of a text, and whether there is one.
func said(s string) (api.Action, bool) {
	l := strings.Split(s, " ")
	kind := slices.Index(words, l[0])
	if kind < 0 {
		return api.Action{}, false
	}
	count := 6
	for _, has := range []bool{hasOther[kind], hasRatio[kind], hasCash[kind]} {
		if has {
			count++
		}
	}
	if len(l) != count {
		return api.Action{}, false
	}
	a := api.Action{Kind: kind, Name: l[1], Asset: l[2], Ratio: num("0"), Cash: num("0")}
	all := true
	for i, day := range []*int{&a.Ex, &a.Record, &a.Pay} {
		var is bool
		*day, is = saidDay(l[3+i])
		all = all && is
	}
	if hasOther[kind] {
		a.Other = l[6]
	}
	// The last word is of the cash, if that is named, and the one ahead of it, or else the last one, of the ratio.
	last := count - 1
	if hasCash[kind] {
		var is bool
		a.Cash, is = saidNumber(l[last])
		all, last = all && is, last-1
	}
	if hasRatio[kind] {
		var is bool
		a.Ratio, is = saidNumber(l[last])
		all = all && is
	}
	if !all || !may(a) {
		return api.Action{}, false
	}
	return a, true
}

// parsed answers what Parse tells: with an error the zero action, and no other error than ErrAction.
func parsed(t *testing.T, s string) (api.Action, bool) {
	t.Helper()
	a, err := action.Parse(s)
	if err != api.OK && (err != 150 || a != (api.Action{})) {
		t.Fatalf("Parse of %.300q: %.300v, %d", s, a, err)
	}
	if again, same := action.Parse(s); again != a || same != err {
		t.Fatalf("Parse of %.300q: %.300v, %d, and then %.300v, %d", s, a, err, again, same)
	}
	return a, err == api.OK
}

// refuses wants that a text is none of an action.
func refuses(t *testing.T, s string) {
	t.Helper()
	if a, is := parsed(t, s); is {
		t.Errorf("Parse of %.300q takes %.300v", s, a)
	}
}

// takes wants that a text is just what a second reading tells, and answers whether it is one of an action.
func takes(t *testing.T, s string) bool {
	t.Helper()
	want, wanted := said(s)
	got, is := parsed(t, s)
	if is != wanted || got != want {
		t.Fatalf("%.300q is parsed as %.300v, %t, not %.300v, %t", s, got, is, want, wanted)
	}
	if is {
		good(t, got)
	}
	return is
}

// good wants all that holds of an action that may be.
func good(t *testing.T, a api.Action) {
	t.Helper()
	was := a
	if !action.May(a) || !action.May(a) {
		t.Fatalf("%.300v may not be", a)
	}
	s := action.Print(a)
	if want := printed(a); s == "" || s != want || action.Print(a) != s {
		t.Fatalf("%.300v is printed as %.300q, not %.300q", a, s, want)
	}
	if got, is := parsed(t, s); !is || got != a {
		t.Fatalf("%.300q is parsed as %.300v, not %.300v", s, got, a)
	}
	if a != was {
		t.Fatalf("%.300v has become %.300v", was, a)
	}
}

// bad wants all that holds of an action that may not be.
func bad(t *testing.T, a api.Action) {
	t.Helper()
	was := a
	if action.May(a) || action.May(a) {
		t.Fatalf("%.300v may be", a)
	}
	if s := action.Print(a); s != "" {
		t.Fatalf("%.300v is printed as %.300q", a, s)
	}
	if a != was {
		t.Fatalf("%.300v has become %.300v", was, a)
	}
}

// held wants that a may be just if a second reading tells so, and all that follows; it answers whether a may be.
func held(t *testing.T, a api.Action) bool {
	t.Helper()
	if !may(a) {
		bad(t, a)
		return false
	}
	good(t, a)
	return true
}

// P15.1: actions of each kind, of numbers that are whole, that have places, and that have none of these.
func TestActionsThatMayBe(t *testing.T) {
	numbers := []string{"1", "2", "10", "1000000", "0.5", "0.25", "12.5", "100.01", "0.00000001", "1/3", "2/3", "22/7", "1/7", "1000001/3", "99999999999999999999", "1/99999999999999999999"}
	for _, s := range numbers {
		for _, a := range []api.Action{split(s), stock(s), cash(s), spin(s), merger(s, "0")} {
			good(t, a)
		}
		for _, other := range numbers {
			good(t, merger(s, other))
		}
	}
	bad(t, api.Action{})
}

// P15.1: kinds below 0 and above 4, of whatever else.
func TestKinds(t *testing.T) {
	for _, a := range kinds() {
		good(t, a)
		for _, kind := range []int{-1, -2, -5, 5, 6, 9, 10, 255, 256, 1 << 31, 1 << 32, 1<<32 + 1, -1 << 32, math.MinInt, math.MinInt + 1, math.MaxInt} {
			bad(t, turned(a, func(a *api.Action) { a.Kind = kind }))
		}
		// What is right for a kind is right for another one only where that names the same: a spin-off is a merger without cash.
		for kind := range 5 {
			other := turned(a, func(a *api.Action) { a.Kind = kind })
			if held(t, other) != (kind == a.Kind || kind+a.Kind == 1 || kind == 4 && a.Kind == 3) {
				t.Errorf("%v", other)
			}
		}
	}
}

// P15.1: each kind with each of what there may be beside it: another asset, a ratio, cash.
func TestWhatIsNamed(t *testing.T) {
	var may []string
	zeros := map[bool]string{true: "1", false: "0"}
	for kind := range 5 {
		for i := range 8 {
			a := api.Action{Name: "n", Kind: kind, Asset: "x", Ratio: num(zeros[i&2 != 0]), Cash: num(zeros[i&4 != 0])}
			if i&1 != 0 {
				a.Other = "y"
			}
			if held(t, a) {
				may = append(may, action.Print(a))
			}
		}
	}
	if want := []string{"split n x 0 0 0 1", "stock n x 0 0 0 1", "cash n x 0 0 0 1", "spin n x 0 0 0 y 1", "merger n x 0 0 0 y 1 0", "merger n x 0 0 0 y 1 1"}; !slices.Equal(may, want) {
		t.Errorf("%q", may)
	}
}

// names answers texts that are names, and texts that are none.
func names() []string {
	l := []string{
		"", "!!", "a!", "!a!", "A", "Ann", "ann bob", " ann", "ann ", "ä", "a\n", "\na", "a-b", "a_b", "a.b", "a,b", "\x00", "a\x00", ":", "-1", "1.5", "a:", "x/y", strings.Repeat("a", 1<<16), strings.Repeat(" ", 1<<16), strings.Repeat("!", 20),
		"!", "0", "z", "!a", "!0", "!issuer", "!round", "cash", "cas", "cashx", "acash", "Cash", "cash1", "!cash", "split", "merger", "abcdefghijklmnopqrst", "!bcdefghijklmnopqrst", "01234567890123456789", "x", "y", "xx", "y1",
	}
	for size := range 25 {
		l = append(l, strings.Repeat("a", size), strings.Repeat("9", size), "!"+strings.Repeat("z", size), "q"+strings.Repeat("0", size))
	}
	for c := range 256 {
		one := string([]byte{byte(c)})
		l = append(l, one, one+"a", "a"+one, "a"+one+"a", strings.Repeat("b", 19)+one, one+strings.Repeat("b", 19), strings.Repeat("b", 20)+one)
	}
	return l
}

// P15.1: names, assets and other ones of each size, and of each byte at the first place, at the second, and at the last one.
func TestNames(t *testing.T) {
	var may, mayNot [3]int
	for _, a := range kinds() {
		for _, name := range names() {
			for i, a := range []api.Action{turned(a, func(a *api.Action) { a.Name = name }), turned(a, func(a *api.Action) { a.Asset = name }), turned(a, func(a *api.Action) { a.Other = name })} {
				if held(t, a) {
					may[i]++
				} else {
					mayNot[i]++
				}
			}
		}
	}
	for i := range may {
		if may[i] < 100 || mayNot[i] < 1000 {
			t.Errorf("%v, %v", may, mayNot)
		}
	}
}

// P15.1: names, assets and other ones that may be, and that may not.
func TestNamesOneByOne(t *testing.T) {
	twenty := "abcdefghijklmnopqrst"
	for _, a := range kinds() {
		for _, name := range []string{"!", "a", "0", "!a", "!0", "!issuer", "!round", "cash", "x", "y", "split", twenty, "!" + twenty[1:], "0" + twenty[1:]} {
			good(t, turned(a, func(a *api.Action) { a.Name = name }))
		}
		for _, name := range []string{"", "!!", "a!", "A", "a b", " a", "a ", "a\n", "é", twenty + "u", "!" + twenty} {
			bad(t, turned(a, func(a *api.Action) { a.Name = name }))
		}
		for _, name := range []string{"a", "z", "z9", "xx", "cashx", "cas", "xcash", "issuer", twenty} {
			good(t, turned(a, func(a *api.Action) { a.Asset = name }))
			if a.Other != "" {
				good(t, turned(a, func(a *api.Action) { a.Other = name }))
			}
		}
		for _, name := range []string{"", "!", "!a", "!issuer", "!round", "!cash", "0", "9", "1x", "cash", "A", "X", "a!", "x ", " x", "x y", "é", "`", "{", twenty + "u"} {
			bad(t, turned(a, func(a *api.Action) { a.Asset = name }))
			if name != "" || a.Other != "" {
				bad(t, turned(a, func(a *api.Action) { a.Other = name }))
			}
		}
		if a.Other == "" {
			for _, name := range []string{"x", "y", twenty} {
				bad(t, turned(a, func(a *api.Action) { a.Other = name }))
			}
			continue
		}
		bad(t, turned(a, func(a *api.Action) { a.Other = a.Asset }))
		bad(t, turned(a, func(a *api.Action) { a.Asset = a.Other }))
		bad(t, turned(a, func(a *api.Action) { a.Asset, a.Other = twenty, twenty }))
		good(t, turned(a, func(a *api.Action) { a.Asset, a.Other = a.Other, a.Asset }))
		good(t, turned(a, func(a *api.Action) { a.Asset, a.Other = twenty, twenty[:19] }))
		// Its name may be that of one of the assets.
		good(t, turned(a, func(a *api.Action) { a.Name = a.Other }))
		good(t, turned(a, func(a *api.Action) { a.Name = a.Asset }))
	}
}

// P15.1: days, each beside each other one, over both edges.
func TestDays(t *testing.T) {
	days := []int{math.MinInt, math.MinInt + 1, -10000, -2, -1, 0, 1, 2, 9, 10, 99, 100, 999, 1000, 5000, 9998, 9999, 10000, 10001, 1 << 16, 1 << 32, math.MaxInt - 1, math.MaxInt}
	count := 0
	for _, a := range kinds() {
		for _, ex := range days {
			for _, record := range days {
				for _, pay := range days {
					if held(t, on(a, ex, record, pay)) {
						count++
					}
				}
			}
		}
		for _, day := range []int{0, 1, 5000, 9999} {
			good(t, on(a, day, day, day))
		}
		for _, l := range [][3]int{{0, 0, 9999}, {0, 9999, 9999}, {0, 1, 2}, {9997, 9998, 9999}, {5, 5, 6}, {5, 6, 6}} {
			good(t, on(a, l[0], l[1], l[2]))
		}
		for _, l := range [][3]int{{-1, -1, -1}, {-1, 0, 0}, {-1, 0, 1}, {0, -1, 0}, {0, 0, -1}, {0, 0, 10000}, {10000, 10000, 10000}, {9999, 10000, 10000}, {1, 0, 1}, {1, 1, 0}, {0, 1, 0}, {2, 1, 0}, {9999, 0, 0}, {5, 7, 6}, {6, 5, 7}} {
			bad(t, on(a, l[0], l[1], l[2]))
		}
	}
	// Of 12 days from 0 to 9999 there are so many rows of three that do not fall.
	if count != 5*12*13*14/6 {
		t.Errorf("%d", count)
	}
}

// numbered answers actions in which a number that is named is x: two of a merger, and one of others.
func numbered(x api.Rat) []api.Action {
	var l []api.Action
	for _, a := range kinds() {
		if hasRatio[a.Kind] {
			l = append(l, turned(a, func(a *api.Action) { a.Ratio = x }))
		}
		if hasCash[a.Kind] {
			l = append(l, turned(a, func(a *api.Action) { a.Cash = x }))
		}
	}
	return l
}

// beside answers actions in which a number that is not named is x.
func beside(x api.Rat) []api.Action {
	var l []api.Action
	for _, a := range kinds() {
		if !hasRatio[a.Kind] {
			l = append(l, turned(a, func(a *api.Action) { a.Ratio = x }))
		}
		if !hasCash[a.Kind] {
			l = append(l, turned(a, func(a *api.Action) { a.Cash = x }))
		}
	}
	return l
}

// P15.1: numbers of 20 digits and fewer over such ones, where they share no divisor, and of 21 and more.
func TestDigits(t *testing.T) {
	longs := []string{"1", "2", "3", "10", strings.Repeat("9", 19), strings.Repeat("9", 20), "1" + strings.Repeat("0", 18), "1" + strings.Repeat("0", 19), "1" + strings.Repeat("0", 18) + "1", power(2, 63), power(2, 64), power(2, 66), power(5, 28), power(3, 41), power(7, 23)}
	tooLongs := []string{strings.Repeat("9", 21), "1" + strings.Repeat("0", 20), "1" + strings.Repeat("0", 19) + "1", power(2, 67), power(5, 29), power(3, 42), power(7, 24), strings.Repeat("7", 22), strings.Repeat("1", 60), strings.Repeat("1", 1000)}
	for _, long := range longs {
		if len(long) > 20 {
			t.Fatal(long)
		}
		for _, den := range longs {
			x := num(long + "/" + den)
			for _, a := range numbered(x) {
				good(t, a)
			}
			for _, a := range numbered(api.Rat{Num: long, Den: den}) {
				if held(t, a) != (x.Num == long) {
					t.Errorf("%v", a)
				}
			}
			for _, a := range numbered(num("-" + long + "/" + den)) {
				bad(t, a)
			}
			for _, a := range beside(x) {
				bad(t, a)
			}
		}
		for _, more := range tooLongs {
			if len(more) < 21 {
				t.Fatal(more)
			}
			for _, x := range []api.Rat{{Num: more, Den: "1"}, {Num: "1", Den: more}, {Num: more, Den: long}, {Num: long, Den: more}, {Num: more, Den: more}, {Num: "-" + more, Den: "1"}, {Num: "0", Den: more}} {
				for _, a := range slices.Concat(numbered(x), beside(x)) {
					bad(t, a)
				}
			}
		}
	}
}

// P15.1: numbers of 0, below 0, and Rats that may not be.
func TestNumbersThatMayNotBe(t *testing.T) {
	for _, a := range numbered(num("0")) {
		// Just a merger's cash may be 0, and is not that of a dividend.
		if want := a.Kind == 4 && a.Ratio == num("0.5"); held(t, a) != want {
			t.Errorf("%v", a)
		}
	}
	for _, a := range beside(num("0")) {
		good(t, a)
	}
	for _, s := range []string{"-1", "-1/2", "-1/3", "-10000", "-0.0001"} {
		for _, a := range slices.Concat(numbered(num(s)), beside(num(s))) {
			bad(t, a)
		}
	}
	for _, x := range []api.Rat{
		{}, {Num: "1"}, {Den: "1"}, {Num: "0", Den: "0"}, {Num: "1", Den: "0"}, {Num: "0", Den: "2"}, {Num: "-0", Den: "1"}, {Num: "0", Den: "-1"}, {Num: "1", Den: "-1"}, {Num: "-1", Den: "-1"}, {Num: "2", Den: "2"}, {Num: "2", Den: "4"}, {Num: "10", Den: "5"}, {Num: "00", Den: "1"}, {Num: "01", Den: "1"}, {Num: "1", Den: "01"}, {Num: "0", Den: "01"}, {Num: "+1", Den: "1"}, {Num: "+0", Den: "1"}, {Num: "1", Den: "+1"}, {Num: "--1", Den: "1"}, {Num: "-", Den: "1"},
		{Num: "1.5", Den: "1"}, {Num: "1/2", Den: "1"}, {Num: "x", Den: "1"}, {Num: "1", Den: "x"}, {Num: " 1", Den: "1"}, {Num: "1 ", Den: "1"}, {Num: "1", Den: " 1"}, {Num: "0 ", Den: "1"}, {Num: "0", Den: "1 "}, {Num: "1\n", Den: "1"}, {Num: "1\x00", Den: "1"}, {Num: "1e2", Den: "1"}, {Num: "0x1", Den: "1"}, {Num: "१", Den: "1"}, {Num: "-1", Den: "0"}, {Num: "0", Den: ""}, {Num: "", Den: "0"},
		{Num: strings.Repeat("1", 1<<20), Den: "1"}, {Num: "1", Den: strings.Repeat("1", 1<<20)}, {Num: strings.Repeat("0", 1<<20), Den: "1"}, {Num: strings.Repeat("x", 1<<20), Den: strings.Repeat("y", 1<<20)}, {Num: strings.Repeat("-", 1<<20), Den: "1"}, {Num: strings.Repeat("3", 1<<20), Den: strings.Repeat("7", 1<<20)},
	} {
		for _, a := range slices.Concat(numbered(x), beside(x)) {
			bad(t, a)
		}
		bad(t, api.Action{Name: "n", Kind: 4, Asset: "x", Other: "y", Ratio: x, Cash: x})
	}
}

// random answers a random action that may be.
func random(r *rand.Rand) api.Action {
	name := func(first string) string {
		out := []byte{first[r.Intn(len(first))]}
		for range r.Intn(20) {
			out = append(out, "abcz019"[r.Intn(7)])
		}
		return string(out)
	}
	digits := func() string {
		out := []byte{"123456789"[r.Intn(9)]}
		for range r.Intn(20) {
			out = append(out, "0123456789"[r.Intn(10)])
		}
		return string(out)
	}
	number := func() api.Rat {
		dens := []string{"1", "1", "2", "100", "8", "3", power(2, int64(r.Intn(67))), power(5, int64(r.Intn(29))), "1" + strings.Repeat("0", r.Intn(20)), digits()}
		return num(digits() + "/" + dens[r.Intn(len(dens))])
	}
	kind := r.Intn(5)
	a := api.Action{Name: name("!abcz019"), Kind: kind, Asset: name("abcz"), Ratio: num("0"), Cash: num("0")}
	days := []int{r.Intn(10000), r.Intn(10000), r.Intn(10000)}
	slices.Sort(days)
	a.Ex, a.Record, a.Pay = days[0], days[1], days[2]
	if hasOther[kind] {
		a.Other = name("abcz")
	}
	for a.Other == a.Asset {
		a.Other = name("abcz")
	}
	if hasRatio[kind] {
		a.Ratio = number()
	}
	if hasCash[kind] && (kind == 2 || r.Intn(3) > 0) {
		a.Cash = number()
	}
	return a
}

// P15.1: actions, some of which have things of others, against a second reading.
func TestMixedActions(t *testing.T) {
	r := rand.New(rand.NewSource(15))
	seen := map[bool]int{}
	for range 30000 {
		a, b := random(r), random(r)
		for _, mix := range []func(){func() { a.Kind = b.Kind }, func() { a.Asset = b.Name }, func() { a.Other = b.Other }, func() { a.Ratio = b.Ratio }, func() { a.Cash = b.Cash }, func() { a.Ex = b.Ex }, func() { a.Record = b.Record }, func() { a.Pay = b.Pay }, func() { a.Name = b.Asset }, func() { a.Other = a.Asset }, func() { a.Ratio.Num = b.Ratio.Num }, func() { a.Cash.Den = b.Cash.Den }} {
			if r.Intn(8) == 0 {
				mix()
			}
		}
		seen[held(t, a)]++
	}
	if seen[true] < 5000 || seen[false] < 5000 {
		t.Errorf("%v", seen)
	}
}
