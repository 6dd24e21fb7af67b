package action_test

import (
	"math/rand"
	"slices"
	"strings"
	"testing"

	"debenture/action"
	"debenture/api"
)

// texts answers the text of an action of each kind.
func texts() []string {
	return []string{"split s1 x 5 6 9 1.5", "stock k1 x 5 6 9 1/3", "cash d1 x 5 6 9 0.25", "spin p1 x 5 6 9 y 2", "merger m1 x 5 6 9 y 0.5 2"}
}

// P15.1: prints, letter by letter.
func TestPrint(t *testing.T) {
	for i, a := range kinds() {
		if got := action.Print(a); got != texts()[i] {
			t.Errorf("%v is printed as %q", a, got)
		}
	}
	twenty := "abcdefghijklmnopqrst"
	for _, c := range []struct {
		a    api.Action
		want string
	}{
		{split("2"), "split s1 x 5 6 9 2"}, {split("0.5"), "split s1 x 5 6 9 0.5"}, {split("1/3"), "split s1 x 5 6 9 1/3"}, {split("5/4"), "split s1 x 5 6 9 1.25"}, {split("100"), "split s1 x 5 6 9 100"},
		{stock("2"), "stock k1 x 5 6 9 2"}, {stock("0.05"), "stock k1 x 5 6 9 0.05"}, {stock("22/7"), "stock k1 x 5 6 9 22/7"},
		{cash("1"), "cash d1 x 5 6 9 1"}, {cash("0.001"), "cash d1 x 5 6 9 0.001"}, {cash("10/3"), "cash d1 x 5 6 9 10/3"},
		{spin("1"), "spin p1 x 5 6 9 y 1"}, {spin("0.1"), "spin p1 x 5 6 9 y 0.1"}, {spin("1/6"), "spin p1 x 5 6 9 y 1/6"},
		{merger("1", "0"), "merger m1 x 5 6 9 y 1 0"}, {merger("1/3", "0.01"), "merger m1 x 5 6 9 y 1/3 0.01"}, {merger("0.75", "2/3"), "merger m1 x 5 6 9 y 0.75 2/3"}, {merger("2", "0.5"), "merger m1 x 5 6 9 y 2 0.5"},
		{on(split("2"), 0, 0, 0), "split s1 x 0 0 0 2"}, {on(stock("2"), 9999, 9999, 9999), "stock k1 x 9999 9999 9999 2"}, {on(cash("2"), 0, 1, 9999), "cash d1 x 0 1 9999 2"}, {on(spin("2"), 10, 100, 1000), "spin p1 x 10 100 1000 y 2"}, {on(merger("2", "1"), 7, 8, 9), "merger m1 x 7 8 9 y 2 1"},
		{turned(merger("2", "1"), func(a *api.Action) { a.Name, a.Asset, a.Other = "!", "y", "x" }), "merger ! y 5 6 9 x 2 1"},
		{turned(spin("2"), func(a *api.Action) { a.Name, a.Asset, a.Other = "!bcdefghijklmnopqrst", twenty, twenty[1:] }), "spin !bcdefghijklmnopqrst abcdefghijklmnopqrst 5 6 9 bcdefghijklmnopqrst 2"},
		{split(strings.Repeat("9", 20)), "split s1 x 5 6 9 99999999999999999999"}, {cash("1/" + strings.Repeat("9", 20)), "cash d1 x 5 6 9 1/99999999999999999999"}, {stock("1/1" + strings.Repeat("0", 19)), "stock k1 x 5 6 9 0.0000000000000000001"}, {spin("1/" + power(2, 66)), "spin p1 x 5 6 9 y 0." + strings.Repeat("0", 19) + power(5, 66)},
		{merger("12345678901234567891/12345678901234567890", "98765432109876543211/98765432109876543210"), "merger m1 x 5 6 9 y 12345678901234567891/12345678901234567890 98765432109876543211/98765432109876543210"},
	} {
		if got := action.Print(c.a); got != c.want {
			t.Errorf("%v is printed as %q, not %q", c.a, got, c.want)
		}
		good(t, c.a)
	}
}

// P15.1: texts, and the actions that they are.
func TestParse(t *testing.T) {
	for i, s := range texts() {
		if got, is := parsed(t, s); !is || got != kinds()[i] {
			t.Errorf("%q is parsed as %v, %t", s, got, is)
		}
	}
	for s, want := range map[string]api.Action{
		"split s1 x 5 6 9 2":            split("2"),
		"split s1 x 5 6 9 2.0":          split("2"),
		"split s1 x 5 6 9 002":          split("2"),
		"split s1 x 5 6 9 4/2":          split("2"),
		"split s1 x 5 6 9 4/02":         split("2"),
		"split s1 x 5 6 9 1.50":         split("3/2"),
		"stock k1 x 5 6 9 2/6":          stock("1/3"),
		"stock k1 x 5 6 9 00.10":        stock("1/10"),
		"cash d1 x 5 6 9 0.250":         cash("1/4"),
		"cash d1 x 0 0 0 1":             on(cash("1"), 0, 0, 0),
		"cash d1 x 9999 9999 9999 1":    on(cash("1"), 9999, 9999, 9999),
		"spin p1 x 5 6 9 y 10":          spin("10"),
		"spin p1 y 5 6 9 x 10":          turned(spin("10"), func(a *api.Action) { a.Asset, a.Other = "y", "x" }),
		"merger m1 x 5 6 9 y 1 0":       merger("1", "0"),
		"merger m1 x 5 6 9 y 1 -0":      merger("1", "0"),
		"merger m1 x 5 6 9 y 1 0.00":    merger("1", "0"),
		"merger m1 x 5 6 9 y 1 -0/7":    merger("1", "0"),
		"merger m1 x 5 6 9 y 1/2 3/4":   merger("1/2", "3/4"),
		"merger ! x 5 6 9 y 1 2":        turned(merger("1", "2"), func(a *api.Action) { a.Name = "!" }),
		"split split split 5 6 9 1":     turned(split("1"), func(a *api.Action) { a.Name, a.Asset = "split", "split" }),
		"cash cash x 5 6 9 1":           turned(cash("1"), func(a *api.Action) { a.Name = "cash" }),
		"spin 5 spin 5 6 9 merger 1":    turned(spin("1"), func(a *api.Action) { a.Name, a.Asset, a.Other = "5", "spin", "merger" }),
		"merger m1 x 5 6 9 xx 0.5 2.00": turned(merger("0.5", "2"), func(a *api.Action) { a.Other = "xx" }),
	} {
		if got, is := parsed(t, s); !is || got != want {
			t.Errorf("%q is parsed as %v, %t, not %v", s, got, is, want)
		}
		takes(t, s)
	}
}

// worded answers a text of that kind with another word at that place.
func worded(kind, place int, word string) string {
	l := strings.Split(texts()[kind], " ")
	l[place] = word
	return strings.Join(l, " ")
}

// each calls for each place of each kind's text.
func each(do func(kind, place int, l []string)) {
	for kind, s := range texts() {
		l := strings.Split(s, " ")
		for place := range l {
			do(kind, place, l)
		}
	}
}

// P15.1: a word less, a word more, and words in another order.
func TestWordsThatAreAmiss(t *testing.T) {
	each(func(kind, place int, l []string) {
		refuses(t, strings.Join(slices.Delete(slices.Clone(l), place, place+1), " "))
		refuses(t, strings.Join(l[:place], " "))
		refuses(t, strings.Join(l[:place], " ")+" ")
		refuses(t, worded(kind, place, ""))
		for i := range place {
			swapped := slices.Clone(l)
			swapped[i], swapped[place] = swapped[place], swapped[i]
			takes(t, strings.Join(swapped, " "))
		}
	})
	for kind, s := range texts() {
		l := strings.Split(s, " ")
		for place := range len(l) + 1 {
			for _, more := range append(strings.Split(texts()[4], " "), "", "0", "z", "-1", "!", ",") {
				refuses(t, strings.Join(slices.Insert(slices.Clone(l), place, more), " "))
			}
		}
		refuses(t, s+" "+s)
		refuses(t, s+" 1")
		refuses(t, s+strings.Repeat(" 1", 1000))
		// Words of another kind.
		for _, word := range words {
			takes(t, worded(kind, 0, word))
			takes(t, worded(kind, 0, word)+" 1")
			takes(t, worded(kind, 0, word)+" y 1")
		}
	}
}

// P15.1: two blanks in place of one, one at the begin, one at the end, and other bytes in place of one.
func TestBlanks(t *testing.T) {
	for _, s := range texts() {
		for _, amiss := range []string{" " + s, s + " ", "  " + s, s + "  ", "\n" + s, s + "\n", "\t" + s, s + "\t", s + "\r", s + "\x00", "\x00" + s, s + ";", s + ",", strings.ReplaceAll(s, " ", "  "), strings.ReplaceAll(s, " ", "\t"), strings.ReplaceAll(s, " ", "\n"), strings.ReplaceAll(s, " ", ""), strings.ReplaceAll(s, " ", ","), strings.ToUpper(s)} {
			refuses(t, amiss)
		}
		for i := range len(s) {
			if s[i] != ' ' {
				continue
			}
			for _, other := range []string{"  ", "   ", "", "\t", "\n", " \n", "\n ", "\v", "\f", "\r", "\x00", "\u00a0", "\u2003", "_", ",", " , "} {
				refuses(t, s[:i]+other+s[i+1:])
			}
		}
	}
	for _, s := range []string{"", " ", "  ", "\n", strings.Repeat(" ", 6), strings.Repeat(" ", 7), strings.Repeat(" ", 8), strings.Repeat(" ", 9)} {
		refuses(t, s)
	}
}

// P15.1: first words other than the five.
func TestFirstWords(t *testing.T) {
	each(func(kind, place int, l []string) {
		for _, word := range []string{"", "join", "Split", "SPLIT", "spli", "splits", "plit", "stoc", "stocks", "cas", "cashs", "Cash", "spi", "spins", "merge", "mergers", "merger:", "0", "1", "2", "3", "4", "!", "act", "split\n", "\nsplit", "sp lit", "ſplit"} {
			refuses(t, worded(kind, 0, word))
		}
		for c := range 256 {
			one := string([]byte{byte(c)})
			takes(t, worded(kind, 0, one+words[kind][1:]))
			takes(t, worded(kind, 0, words[kind]+one))
			takes(t, worded(kind, 0, words[kind][:1]+one+words[kind][2:]))
		}
	})
}

// P15.1: names and assets of a text.
func TestNamesOfTexts(t *testing.T) {
	for kind := range texts() {
		for _, name := range names() {
			takes(t, worded(kind, 1, name))
			takes(t, worded(kind, 2, name))
			if hasOther[kind] {
				takes(t, worded(kind, 6, name))
			}
		}
	}
	for _, s := range []string{"split s1 cash 5 6 9 1", "split s1 !x 5 6 9 1", "split s1 1x 5 6 9 1", "split S x 5 6 9 1", "split s! x 5 6 9 1", "spin p1 x 5 6 9 x 1", "spin p1 x 5 6 9 cash 1", "spin p1 x 5 6 9 !y 1", "spin p1 x 5 6 9 1 1", "merger p1 x 5 6 9 x 1 1", "merger p1 x 5 6 9 cash 1 1", "merger p1 cash 5 6 9 y 1 1", "merger p1 x 5 6 9 9 1 1"} {
		refuses(t, s)
	}
}

// P15.1: days of a text.
func TestDaysOfTexts(t *testing.T) {
	good := []string{"0", "1", "4", "5", "6", "7", "9", "10", "100", "9998", "9999"}
	none := []string{"", "-0", "-1", "+5", "00", "05", "005", "09999", "10000", "10001", "99999", "5.0", "5.", ".5", "5/1", "5e0", "0x5", "5_0", "x", "five", "५", "5\n", "\n5", "5\x00", "5:", "9223372036854775807", "9223372036854775808", "18446744073709551616", "18446744073709551621", "-9223372036854775808", "-9223372036854775809", "4294967296", "4294967301", strings.Repeat("0", 1000), strings.Repeat("9", 1000), strings.Repeat("5", 1<<20)}
	for kind := range texts() {
		for place := 3; place < 6; place++ {
			for _, s := range none {
				refuses(t, worded(kind, place, s))
			}
			for _, s := range good {
				takes(t, worded(kind, place, s))
			}
		}
		taken := 0
		for _, ex := range good {
			for _, record := range good {
				for _, pay := range good {
					l := strings.Split(texts()[kind], " ")
					l[3], l[4], l[5] = ex, record, pay
					if takes(t, strings.Join(l, " ")) {
						taken++
					}
				}
			}
		}
		if taken != 11*12*13/6 {
			t.Errorf("%d", taken)
		}
		for _, s := range []string{"05", "00", "-1", "+5", "10000"} {
			l := strings.Split(texts()[kind], " ")
			l[3], l[4], l[5] = s, s, s
			refuses(t, strings.Join(l, " "))
		}
	}
}

// P15.1: numbers of a text.
func TestNumbersOfTexts(t *testing.T) {
	nines := strings.Repeat("9", 20)
	numbers := map[string]string{
		"1": "1", "2": "2", "0001": "1", "1.0": "1", "1.50": "3/2", "00.5": "1/2", "0.5": "1/2", "4/8": "1/2", "6/4": "3/2", "10/5": "2", "1/3": "1/3", "02/06": "1/3", "1/1": "1", nines: nines, "1/" + nines: "1/" + nines, nines + "/7": nines + "/7", "0.0000000000000000001": "1/1" + strings.Repeat("0", 19), strings.Repeat("0", 999) + "1": "1", "1." + strings.Repeat("0", 998): "1", "1/" + strings.Repeat("0", 997) + "3": "1/3", nines + "0/10": nines, nines + ".0": nines, strings.Repeat("0", 50) + nines: nines, power(7, 30) + "/" + power(7, 29): "7",
	}
	none := []string{
		"", "0", "-0", "00", "0.0", "-0.00", "0/1", "-0/5", "00/3", "-1", "-0.5", "-1/3", "1/0", "-1/0", "0/0", "1/00", "1/-2", "-1/-2", "1/+2", "+1", "--1", "-", "-+1", "1-", "1.", ".5", "-.5", ".", "1..5", "1.2.3", "1/", "/2", "/", "1//2", "1/2/3", "1.5/2", "1/2.5", "1e3", "1E3", "0x10", "1,5", "1_000", "x", "nan", "inf", "½", "१", "1\n", "\n1", "1\x00", "1:", "(1)", "1%",
		"123456789012345678901", "1" + nines, nines + "1", "1/" + nines + "1", nines + ".1", "0." + strings.Repeat("0", 20) + "1", "0.1234567890123456789012", strings.Repeat("0", 1000) + "1", "1." + strings.Repeat("0", 999), "1/" + strings.Repeat("0", 998) + "3", strings.Repeat("9", 1000), strings.Repeat("9", 1<<20), strings.Repeat("1", 1<<20) + "/" + strings.Repeat("1", 1<<20),
	}
	for kind, s := range texts() {
		last := len(strings.Split(s, " ")) - 1
		for place := 6; place <= last; place++ {
			if hasOther[kind] && place == 6 {
				continue
			}
			for _, s := range none {
				x, is := saidNumber(s)
				if is && x == num("0") && kind == 4 && place == last {
					if !takes(t, worded(kind, place, s)) {
						t.Errorf("%q", s)
					}
					continue
				}
				refuses(t, worded(kind, place, s))
			}
			for s, want := range numbers {
				got, is := parsed(t, worded(kind, place, s))
				number := got.Ratio
				if hasCash[kind] && place == last {
					number = got.Cash
				}
				if !is || number != num(want) {
					t.Errorf("%q is parsed as %v, %t", worded(kind, place, s), got, is)
				}
				takes(t, worded(kind, place, s))
			}
		}
	}
}

// P15.1, P5: texts of which a byte is taken away, is another one, or is one more.
func TestBytesOfTexts(t *testing.T) {
	taken := map[bool]int{}
	others := []string{"", " ", "-", "/", ".", "0", "1", "9", "a", "x", "y", "z", "A", "!", "+", ",", ":", "\n", "\t", "\x00", "\xff", "é", "  ", " 1 ", "cash"}
	for _, s := range append(texts(), "split ! a 0 0 0 1/3", "cash 1 b 9999 9999 9999 007", "merger 0 z9 1 10 100 a 0.50 0") {
		for i := range len(s) + 1 {
			for _, other := range others {
				taken[takes(t, s[:i]+other+s[i:])]++
				if i < len(s) {
					taken[takes(t, s[:i]+other+s[i+1:])]++
				}
			}
			takes(t, s[:i])
			takes(t, s[i:])
			takes(t, s[i:]+s[:i])
		}
	}
	if taken[true] < 1000 || taken[false] < 3000 {
		t.Errorf("%v", taken)
	}
}

// P5: random words, and random bytes.
func TestRandomTexts(t *testing.T) {
	r := rand.New(rand.NewSource(155))
	pick := func(l ...string) string { return l[r.Intn(len(l))] }
	taken := map[bool]int{}
	for range 30000 {
		kind := r.Intn(5)
		l := []string{words[kind], pick("m1", "s", "!a", "9", "cash", "x", "S", ""), pick("x", "x", "xy", "z9", "b", "cash", "1", "!x")}
		for _, days := range [][]string{{"0", "3", "5"}, {"5", "5", "6", "07"}, {"6", "77", "9999", "10000"}} {
			l = append(l, pick(days...))
		}
		if hasOther[kind] {
			l = append(l, pick("y", "y", "y9", "x", "cash", "z"))
		}
		for _, has := range []bool{hasRatio[kind], hasCash[kind], r.Intn(20) == 0} {
			if has {
				l = append(l, pick("1", "0.5", "1/3", "0", "2", "12.50", "-1", "1."))
			}
		}
		blank := pick(" ", " ", " ", " ", " ", " ", " ", "  ", "\n")
		taken[takes(t, strings.Join(l, blank))]++
	}
	for range 30000 {
		s := make([]byte, r.Intn(40))
		for i := range s {
			s[i] = byte(r.Intn(256))
			if r.Intn(4) > 0 {
				s[i] = "  -./019abxysplitcashmerger!"[r.Intn(28)]
			}
		}
		takes(t, string(s))
		takes(t, pick(words...)+" "+string(s))
	}
	if taken[true] < 1000 || taken[false] < 10000 {
		t.Errorf("%v", taken)
	}
}

// P1: long texts come to an end.
func TestLongTexts(t *testing.T) {
	for _, s := range []string{" ", "a", "1", "\n", "\x00", "\xff", "-", "/", "0 ", "split ", "merger m1 ", texts()[4] + " "} {
		refuses(t, strings.Repeat(s, 1<<22/len(s)))
	}
	each(func(kind, place int, l []string) {
		for _, c := range []string{"1", "a", "!", "-", "0", "/", "\n", " ", " 1"} {
			refuses(t, worded(kind, place, strings.Repeat(c, 1<<18)))
		}
	})
}

// P15.2: what is printed is parsed as it was; and what is parsed is printed, and that is parsed as the same.
func TestPrintedIsParsed(t *testing.T) {
	r := rand.New(rand.NewSource(152))
	for range 10000 {
		a := random(r)
		good(t, a)
		// Of another text of the same action comes the same print.
		s := action.Print(a)
		l := strings.Split(s, " ")
		l[len(l)-1] = "00" + l[len(l)-1]
		if strings.Contains(l[len(l)-1], ".") {
			l[len(l)-1] += "00"
		}
		if got, is := parsed(t, strings.Join(l, " ")); !is || got != a || action.Print(got) != s {
			t.Fatalf("%q is parsed as %v, %t", l, got, is)
		}
	}
}

// P15.2: unlike actions have unlike prints.
func TestUnlikePrints(t *testing.T) {
	var all []api.Action
	for _, a := range kinds() {
		all = append(all, a, on(a, 5, 6, 10), on(a, 5, 7, 9), on(a, 4, 6, 9), on(a, 5, 9, 9), on(a, 6, 6, 9), on(a, 0, 0, 0), on(a, 1, 11, 111), on(a, 11, 11, 111), on(a, 1, 1, 1111))
		for _, name := range []string{"a", "b", "ab", "a5", "!a", "z"} {
			all = append(all, turned(a, func(a *api.Action) { a.Name = name }))
			if name[0] != '!' {
				all = append(all, turned(a, func(a *api.Action) { a.Asset = name }))
			}
			if name[0] != '!' && hasOther[a.Kind] {
				all = append(all, turned(a, func(a *api.Action) { a.Other = name }), turned(a, func(a *api.Action) { a.Asset, a.Other = name, "x" }))
			}
		}
	}
	for _, s := range []string{"1", "11", "1/11", "111", "1/111", "1.1", "0.1", "0.01", "10", "100"} {
		all = append(all, numbered(num(s))...)
	}
	r := rand.New(rand.NewSource(2))
	for range 3000 {
		all = append(all, random(r))
	}
	seen := map[string]api.Action{}
	for _, a := range all {
		s := action.Print(a)
		if other, is := seen[s]; is && other != a || s == "" {
			t.Errorf("%v and %v are both printed as %q", other, a, s)
		}
		seen[s] = a
	}
	if len(seen) < 3000 {
		t.Errorf("%d", len(seen))
	}
}
