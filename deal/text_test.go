package deal_test

import (
	"math/rand"
	"slices"
	"strconv"
	"strings"
	"testing"

	"debenture/api"
	"debenture/deal"
	"debenture/term"
)

// takes wants that a text is just what a second reading tells, and answers whether it is one of a deal.
func takes(t *testing.T, s string) bool {
	t.Helper()
	want, wanted := said(s)
	got, is := parsed(t, s)
	if is != wanted || !same(got, want) {
		t.Fatalf("%.300q is parsed as %s, %t, not %s, %t", s, brief(got), is, brief(want), wanted)
	}
	if is {
		good(t, got)
	}
	return is
}

// P14.1: prints, letter by letter.
func TestPrint(t *testing.T) {
	for _, c := range []struct {
		d    api.Deal
		want string
	}{
		{right("100", "max(px(x, 9) - 50, 0)"), example},
		{flat("100", "max(px(x, 9) - 50, 0)"), "c1 ann bob 9 100 flat : max((px(x, 9) - 50), 0)"},
		{right("1", "7"), "c1 ann bob 9 1 right : 7"},
		{right("-1", "0"), "c1 ann bob 9 -1 right : 0"},
		{right("1/2", "0.250"), "c1 ann bob 9 0.5 right : 0.25"},
		{flat("-25/2", "-1"), "c1 ann bob 9 -12.5 flat : (-1)"},
		{flat("1/3", "num(2, 6)"), "c1 ann bob 9 1/3 flat : num(1, 3)"},
		{right("-22/7", "num(-4, 2)"), "c1 ann bob 9 -22/7 right : num(-2, 1)"},
		{flat("0.0000000000000000000001", "1"), "c1 ann bob 9 0.0000000000000000000001 flat : 1"},
		{flat("1/6", "1+2*3"), "c1 ann bob 9 1/6 flat : (1 + (2 * 3))"},
		{flat("10", "px(x,0)"), "c1 ann bob 9 10 flat : px(x, 0)"},
		{flat("10", "avg(x,1,3)"), "c1 ann bob 9 10 flat : avg(x, 1, 3)"},
		{flat("10", "hi(x,1,3)/lo(y,9999,9999)"), "c1 ann bob 9 10 flat : (hi(x, 1, 3) / lo(y, 9999, 9999))"},
		{flat("10", "if(1-2,min(3,4),--5)"), "c1 ann bob 9 10 flat : if((1 - 2), min(3, 4), (-(-5)))"},
		{turned(flat("10", "1"), func(d *api.Deal) { d.Name, d.Long, d.Short = "!", "!issuer", "0" }), "! !issuer 0 9 10 flat : 1"},
		{turned(flat("10", "1"), func(d *api.Deal) { d.Long, d.Short = d.Short, d.Long }), "c1 bob ann 9 10 flat : 1"},
		{turned(flat("10", "1"), func(d *api.Deal) { d.Day = 0 }), "c1 ann bob 0 10 flat : 1"},
		{turned(flat("10", "1"), func(d *api.Deal) { d.Day = 10 }), "c1 ann bob 10 10 flat : 1"},
		{turned(flat("10", "1"), func(d *api.Deal) { d.Day = 9999 }), "c1 ann bob 9999 10 flat : 1"},
		{flat("1"+strings.Repeat("0", 59), "1"), "c1 ann bob 9 1" + strings.Repeat("0", 59) + " flat : 1"},
		{flat("-1/1"+strings.Repeat("0", 59), "1"), "c1 ann bob 9 -0." + strings.Repeat("0", 58) + "1 flat : 1"},
		{flat("1/"+power(2, 199), "1"), "c1 ann bob 9 0." + strings.Repeat("0", 59) + power(5, 199) + " flat : 1"},
		{flat("-1/"+power(3, 125), "1"), "c1 ann bob 9 -1/" + power(3, 125) + " flat : 1"},
	} {
		if got := deal.Print(c.d); got != c.want {
			t.Errorf("%v is printed as %q, not %q", c.d, got, c.want)
		}
		good(t, c.d)
	}
}

// P14.1: texts, and the deals that they are.
func TestParse(t *testing.T) {
	for s, want := range map[string]api.Deal{
		example:                              right("100", "max(px(x, 9) - 50, 0)"),
		"c1 ann bob 9 100 flat : px(x, 9)":   flat("100", "px(x, 9)"),
		"c1 ann bob 9 0.50 flat : 1 + 2":     flat("1/2", "1 + 2"),
		"c1 ann bob 9 -1/3 flat : 1":         flat("-1/3", "1"),
		"c1 ann bob 9 2/6 right : 1":         right("1/3", "1"),
		"c1 ann bob 9 007 right : 1":         right("7", "1"),
		"c1 ann bob 9 -00.10 right : 1":      right("-1/10", "1"),
		"c1 ann bob 9 3/0004 right : 1":      right("3/4", "1"),
		"c1 ann bob 9 1 flat : -1":           flat("1", "-1"),
		"c1 ann bob 9 1 flat :  7":           flat("1", "7"),
		"c1 ann bob 9 1 flat :    1+   2":    flat("1", "1 + 2"),
		"c1 ann bob 9 1 flat : \n1\n+\n2":    flat("1", "1 + 2"),
		"c1 ann bob 9 1 flat : (((7)))":      flat("1", "7"),
		"c1 ann bob 9 1 flat : 007.10":       flat("1", "7.1"),
		"c1 ann bob 9 1 flat : num(4, 6)":    flat("1", "num(2, 3)"),
		"c1 ann bob 9 1 flat : max ( 1 ,2 )": flat("1", "max(1, 2)"),
		"! !issuer a 0 1 flat : 1":           turned(flat("1", "1"), func(d *api.Deal) { d.Name, d.Long, d.Short, d.Day = "!", "!issuer", "a", 0 }),
		"c1 c1 bob 9999 1 flat : 1":          turned(flat("1", "1"), func(d *api.Deal) { d.Long, d.Day = "c1", 9999 }),
		"right flat px 9 1 flat : px(px, 1)": turned(flat("1", "px(px, 1)"), func(d *api.Deal) { d.Name, d.Long, d.Short = "right", "flat", "px" }),
		"1 2 3 4 5 right : 6":                turned(right("5", "6"), func(d *api.Deal) { d.Name, d.Long, d.Short, d.Day = "1", "2", "3", 4 }),
	} {
		if got, is := parsed(t, s); !is || !same(got, want) {
			t.Errorf("%q is parsed as %v, %t, not %v", s, got, is, want)
		}
		takes(t, s)
	}
}

// words answers the words of the document's example, the last one being its Pay.
func words() []string {
	return strings.SplitN(example, " ", 8)
}

// worded answers the example with another word at that place.
func worded(place int, word string) string {
	l := words()
	l[place] = word
	return strings.Join(l, " ")
}

// P14.1: a word less, a word more, words in another order, and one in the place of another one.
func TestWordsThatAreAmiss(t *testing.T) {
	all := words()
	for i := range all {
		less := slices.Delete(slices.Clone(all), i, i+1)
		refuses(t, strings.Join(less, " "))
		refuses(t, strings.Join(all[:i], " "))
		refuses(t, strings.Join(all[:i], " ")+" ")
		refuses(t, strings.Join(all[i+1:], " "))
		refuses(t, worded(i, ""))
		// A word more ahead of each one.
		for _, more := range append(words(), "x", "1", "0", "-1", ",", "!") {
			refuses(t, strings.Join(slices.Insert(words(), i, more), " "))
		}
		for j := range all {
			swapped := words()
			swapped[i], swapped[j] = swapped[j], swapped[i]
			// Names may stand in each other's places, and so may the day and the Mult.
			if is := takes(t, strings.Join(swapped, " ")); is != (i == j || max(i, j) < 3 || i+j == 7 && max(i, j) == 4) {
				t.Errorf("%q: %t", swapped, is)
			}
			takes(t, worded(i, all[j]))
		}
	}
	for _, more := range []string{"x", "1", ":", "flat", "right", "9", "ann", ",", ")", "px(x, 9)"} {
		refuses(t, example+" "+more)
	}
	refuses(t, example+" "+example)
	refuses(t, example+"\n"+example)
}

// P14.1: another thing than one blank between two words, and ahead of the first one. What is behind the one behind the colon is all of Pay: it may begin and end with blanks, as what parse.Parse takes.
func TestBlanks(t *testing.T) {
	all := words()
	for i := range 7 {
		ahead, behind := strings.Join(all[:i+1], " "), strings.Join(all[i+1:], " ")
		if ahead+" "+behind != example {
			t.Fatalf("%q, %q", ahead, behind)
		}
		for _, between := range []string{"", "\n", "\t", "\r", "\v", "\f", "\x00", "\u00a0", "\u2003", ",", "_", "\n ", "\t ", "\u00a0 "} {
			refuses(t, ahead+between+behind)
		}
		for _, between := range []string{"  ", "   ", " \n"} {
			if i == 6 {
				if !takes(t, ahead+between+behind) {
					t.Errorf("%q", ahead+between+behind)
				}
				continue
			}
			refuses(t, ahead+between+behind)
		}
		refuses(t, ahead+" \t"+behind)
	}
	for _, s := range []string{" ", "  ", "\n", "\t", "\ufeff", "\u00a0"} {
		refuses(t, s+example)
		refuses(t, s+" "+example)
	}
	for _, s := range []string{" ", "  ", "\n", " \n "} {
		if d, is := parsed(t, example+s); !is || !same(d, deals()[0]) {
			t.Errorf("%q is parsed as %v, %t", example+s, d, is)
		}
	}
	for _, s := range []string{"\t", "\r\n", "\x00", "\u00a0", "\v"} {
		refuses(t, example+s)
	}
	for _, s := range []string{"c1 ann bob 9 1 flat :", "c1 ann bob 9 1 flat : ", "c1 ann bob 9 1 flat :  ", "c1 ann bob 9 1 flat : \n", "c1 ann bob 9 1 flat ", "c1 ann bob 9 1 flat", "c1 ann bob 9 1 ", "c1 ", "", " ", "  ", strings.Repeat(" ", 6), strings.Repeat(" ", 7), strings.Repeat(" ", 8), "\n", ":", " : ", "      : 1", "\x00"} {
		refuses(t, s)
	}
}

// P14.1: names of a text.
func TestNamesOfTexts(t *testing.T) {
	for place := range 3 {
		for size := range 25 {
			if is := takes(t, worded(place, strings.Repeat("z", size))); is != (size >= 1 && size <= 20) {
				t.Errorf("%d bytes: %t", size, is)
			}
		}
		for c := range 256 {
			one := string([]byte{byte(c)})
			takes(t, worded(place, one))
			takes(t, worded(place, one+"a"))
			takes(t, worded(place, "a"+one))
		}
		for _, name := range []string{"C1", "Ann", "a!", "!!", "a-b", "ä", "-", "a,", ":", "(a)", strings.Repeat("a", 1<<20)} {
			refuses(t, worded(place, name))
		}
		for _, name := range []string{"!", "0", "!a", "!issuer", "!round", "cash", "right", "00"} {
			if !takes(t, worded(place, name)) {
				t.Errorf("%q at %d", name, place)
			}
		}
	}
	refuses(t, worded(1, "bob"))
	refuses(t, worded(2, "ann"))
	if !takes(t, worded(0, "ann")) || !takes(t, worded(0, "bob")) {
		t.Error("a deal may be named as who has a part in it")
	}
}

// P14.1: days of a text.
func TestDaysOfTexts(t *testing.T) {
	for day := range 10000 {
		if d, is := parsed(t, "c1 ann bob "+strconv.Itoa(day)+" 1 flat : 1"); !is || d.Day != day {
			t.Fatalf("day %d: %v, %t", day, d, is)
		}
	}
	for _, s := range []string{
		"", "00", "01", "09", "0009", "09999", "000", "-0", "-1", "-9", "+9", "+0", "10000", "10001", "99999", "65536", "65545", "4294967296", "4294967305", "9223372036854775807", "9223372036854775808", "18446744073709551616", "18446744073709551625", "1" + strings.Repeat("0", 30), strings.Repeat("9", 1<<20), strings.Repeat("0", 1<<20),
		"9.0", "9.", ".9", "9/1", "1e3", "0x9", "0b1", "1_0", "1,0", "x", "nine", "९", "9\n", "\n9", "9\x00", "9-", "9:",
	} {
		refuses(t, worded(3, s))
	}
}

// P14.1: Mults of a text.
func TestMultsOfTexts(t *testing.T) {
	sixty, zeros := strings.Repeat("7", 60), strings.Repeat("0", 100)
	for s, want := range map[string]string{
		"1": "1", "-1": "-1", "100": "100", "0.50": "1/2", "-12.50": "-25/2", "1.000": "1", "00.10": "1/10", "007": "7", "-007": "-7", "1/2": "1/2", "2/4": "1/2", "-4/6": "-2/3", "4/2": "2", "1/0003": "1/3", "0010/0005": "2", "010/08": "5/4",
		sixty: sixty, "-" + sixty: "-" + sixty, "1/" + sixty: "1/" + sixty, "-1/" + sixty: "-1/" + sixty, zeros + "1": "1", "1." + zeros: "1", "1/" + zeros + "3": "1/3",
		// In lowest terms these have as few digits as may be.
		"1" + zeros + "/1" + zeros: "1", "1" + strings.Repeat("0", 60) + "/10": "1" + strings.Repeat("0", 59), "10/1" + strings.Repeat("0", 60): "1/1" + strings.Repeat("0", 59), "0." + strings.Repeat("0", 58) + "1": "1/1" + strings.Repeat("0", 59), "0." + strings.Repeat("0", 59) + "5": "1/2" + strings.Repeat("0", 59),
		strings.Repeat("0", 999) + "1": "1", strings.Repeat("0", 997) + "1/3": "1/3", "-" + strings.Repeat("0", 998) + "1": "-1", "1." + strings.Repeat("0", 998): "1", "1/" + strings.Repeat("0", 997) + "3": "1/3",
	} {
		if got, is := parsed(t, worded(4, s)); !is || got.Mult != mult(want) {
			t.Errorf("%q is parsed as %v, %t, not %s", s, got.Mult, is, want)
		}
		takes(t, worded(4, s))
	}
	for _, s := range []string{
		"", "0", "-0", "00", "0.0", "-0.00", "0/1", "0/5", "-0/5", "00/3", "1/0", "-1/0", "0/0", "1/00", "1/-2", "-1/-2", "1/+2", "+1", "--1", "-", "-+1", "1-", "1.", ".5", "-.5", ".", "1..5", "1.2.3", "1/", "/2", "/", "1//2", "1/2/3", "1.5/2", "1/2.5", "1e3", "1E3", "0x10", "1,5", "1_000", "x", "nan", "inf", "½", "१", "1\n", "\n1", "1\x00", "1:", "num(1,", "(1)",
		"1" + strings.Repeat("0", 60), "-1" + strings.Repeat("0", 60), sixty + "7", "-" + sixty + "7", "1/" + sixty + "7", "-1/" + sixty + "7", "0." + strings.Repeat("0", 59) + "1", "0." + strings.Repeat("0", 60) + "5", sixty + ".1", "1." + strings.Repeat("0", 59) + "1",
		strings.Repeat("0", 1000) + "1", strings.Repeat("0", 998) + "1/3", "-" + strings.Repeat("0", 999) + "1", "1." + strings.Repeat("0", 999), "1/" + strings.Repeat("0", 998) + "3", strings.Repeat("9", 1000), strings.Repeat("9", 1<<20), strings.Repeat("1", 1<<20) + "/" + strings.Repeat("1", 1<<20),
	} {
		refuses(t, worded(4, s))
	}
}

// P14.1: the word for a right or a flat one, and the colon.
func TestKindsAndColonsOfTexts(t *testing.T) {
	for _, s := range []string{"", "Right", "RIGHT", "Flat", "righ", "rights", "rightt", "ight", "fla", "flatt", "lat", "left", "call", "put", "true", "false", "0", "1", "r", "f", ":", "rightflat", "right,", "right\n", "\nright", "right\x00", "rıght", "-right", "right:"} {
		refuses(t, worded(5, s))
		refuses(t, worded(5, s+" right"))
		refuses(t, worded(5, s+" flat"))
	}
	for _, s := range []string{"", ";", ",", ".", "::", ":=", "=", "-", "|", "!", "x", "1", "flat", "\n", ":\n", "\n:", ":\x00", "：", "\u02d0", "։", "\xff", "(", "( :", ": :"} {
		refuses(t, worded(6, s))
	}
	for c := range 256 {
		if one := string([]byte{byte(c)}); takes(t, worded(6, one)) != (one == ":") {
			t.Errorf("%q", one)
		}
		takes(t, worded(5, "righ"+string([]byte{byte(c)})))
		takes(t, worded(5, string([]byte{byte(c)})+"lat"))
	}
	// Without the blank on one of its sides the colon is no word.
	for _, s := range []string{"c1 ann bob 9 1 flat: 1", "c1 ann bob 9 1 flat :1", "c1 ann bob 9 1 flat:1", "c1 ann bob 9 1 flat 1", "c1 ann bob 9 1 : flat 1", ": c1 ann bob 9 1 flat 1", "c1 ann bob 9 1 flat 1 :", "c1 : ann : bob : 9 : 1 : flat : 1"} {
		refuses(t, s)
	}
}

// P14.1: Pays of a text.
func TestPaysOfTexts(t *testing.T) {
	tall := func(many int) string { return strings.Repeat("(", many) + "1" + strings.Repeat(")", many) }
	for _, s := range []string{
		"", " ", "\n", "1 +", "+ 1", "+1", "1 2", "1 -", "(1", "1)", "()", "(", ")", ",", "1,", "x", "px", "px(", "px(x)", "px(x, -1)", "px(x, 10000)", "px(x, 09)", "px(x, 1, 2)", "px(!x, 1)", "px(1, 1)", "avg(x, 2, 1)", "hi(x, 0, 60)", "lo(x, 1)", "max(1)", "max(1, 2, 3)", "if(1, 2)", "if(1, 2, 3, 4)", "num(1)", "num(1, 0)", "num(1, -1)", "px(x, 5) - 2 * -y",
		"X", "1.", ".5", "1e3", "1/2/", "1 : 2", ": 1", "1 :", "flat", "1\t", "\t1", "1\r\n", "1 ; 2", "é", "\xff", "\x00", "1" + strings.Repeat("0", 60), "0." + strings.Repeat("0", 60) + "1", strings.Repeat("q", 21),
		strings.Repeat("-", 150) + "1", tall(201), tall(1 << 16), strings.Repeat("(", 1<<20), strings.Repeat("-", 19999) + "1", strings.Repeat("1+", 1000) + "1", strings.Repeat(" ", 20000) + "1", "1" + strings.Repeat(" ", 20000), strings.Repeat(" ", 1<<20), strings.Repeat("1", 1<<20), strings.Repeat(" 1", 1<<20), term.Print(sized(20001)),
	} {
		refuses(t, worded(7, s))
	}
	for _, s := range []string{
		"1", "-1", "--1", "0", "-0", "01", "num(-4, 6)", "num(0, 5)", strings.Repeat("-", 149) + "1", tall(200), strings.Repeat("1+", 149) + "1", strings.Repeat(" ", 19999) + "1", "1" + strings.Repeat(" ", 19999), strings.Repeat("\n", 19999) + "1", strings.Repeat("7", 60), "0." + strings.Repeat("0", 58) + "1", term.Print(sized(20000)), term.Print(sized(19999)), term.Print(most(api.TAdd, read("1"))), term.Print(chain(read("px(x, 1)"), 149)),
	} {
		if !takes(t, worded(7, s)) {
			t.Errorf("%.100q is taken for none", s)
		}
	}
}

// P14.1, P5: texts of which a byte is taken away, another one, or one more.
func TestBytesOfTexts(t *testing.T) {
	taken := map[bool]int{}
	others := []string{"", " ", ":", "-", "/", ".", "0", "1", "9", "a", "z", "A", "!", "+", "(", ")", ",", "\n", "\t", "\x00", "\xff", "é", "  ", " : "}
	for _, s := range []string{example, "! !a b 0 -1/3 flat : 1 + 2", "x y z 9999 0.50 right : avg(x, 1, 3)", "1 2 3 4 5 flat :  7"} {
		for i := range len(s) + 1 {
			for _, other := range others {
				taken[takes(t, s[:i]+other+s[i:])]++
				if i < len(s) {
					taken[takes(t, s[:i]+other+s[i+1:])]++
				}
			}
			takes(t, s[:i])
			takes(t, s[i:])
			takes(t, s[i:]+s[:i])
		}
	}
	if taken[true] < 500 || taken[false] < 2000 {
		t.Errorf("%v", taken)
	}
}

// P5: random words, and random bytes.
func TestRandomTexts(t *testing.T) {
	r := rand.New(rand.NewSource(14))
	pick := func(l ...string) string { return l[r.Intn(len(l))] }
	blank := func() string {
		if r.Intn(40) > 0 {
			return " "
		}
		return pick("", "  ", "\n", "\t", " : ")
	}
	taken := map[bool]int{}
	for range 20000 {
		name := func() string { return pick("ann", "bob", "c1", "!issuer", "cash", "z9", "q", "Ann", "a!", "", "9") }
		s := name() + blank() + name() + blank() + name() + blank() + pick("0", "7", "12", "9999", "10000", "07", "-1", "500") + blank() + pick("1", "-1", "0.5", "1/3", "-2/6", "007", "0", "1/0", "x", "12.50", "1e2") + blank() + pick("right", "flat", "right", "flat", "left") + blank() + pick(":", ":", ":", ":", ":", ":", ";") + blank() + pick("1", "px(x, 1)", "max(1, 2) * 3", "-1 - -1", "1 +", "(1)", "7 / 0", "y")
		taken[takes(t, s)]++
	}
	for range 20000 {
		s := make([]byte, r.Intn(40))
		for i := range s {
			s[i] = byte(r.Intn(256))
			if r.Intn(4) > 0 {
				s[i] = "  :.-/019abflatright!"[r.Intn(21)]
			}
		}
		takes(t, string(s))
	}
	if taken[true] < 1000 || taken[false] < 5000 {
		t.Errorf("%v", taken)
	}
}

// P1: long texts come to an end.
func TestLongTexts(t *testing.T) {
	for _, s := range []string{" ", ":", "a", "1", "\n", "\x00", "\xff", " :", "c1 ", example + " ", "-", "(", "c1 ann bob 9 1 flat : "} {
		refuses(t, strings.Repeat(s, 1<<22/len(s)))
	}
	for i := range 8 {
		for _, c := range []string{"1", "a", "!", "-", "0", ":", "/", "\n"} {
			refuses(t, worded(i, strings.Repeat(c, 1<<20)))
		}
	}
}

// random answers a random deal that may be.
func random(r *rand.Rand) api.Deal {
	name := func() string {
		out := []byte{"!abcz019"[r.Intn(8)]}
		for range r.Intn(20) {
			out = append(out, "abcz019"[r.Intn(7)])
		}
		return string(out)
	}
	digits := func() string {
		out := []byte{"123456789"[r.Intn(9)]}
		for range r.Intn(60) {
			out = append(out, "0123456789"[r.Intn(10)])
		}
		return string(out)
	}
	d := api.Deal{Name: name(), Long: name(), Short: name(), Day: r.Intn(10000), Right: r.Intn(2) == 0, Pay: grown(r, 1+r.Intn(6))}
	for d.Short == d.Long {
		d.Short = name()
	}
	dens := []string{"1", "1", "2", "100", "8", "3", power(2, int64(r.Intn(200))), power(5, int64(r.Intn(86))), "1" + strings.Repeat("0", r.Intn(60)), digits()}
	d.Mult = mult([]string{"", "-"}[r.Intn(2)] + digits() + "/" + dens[r.Intn(len(dens))])
	return d
}

// grown answers a random term that may be, of at most so many levels.
func grown(r *rand.Rand, levels int) api.Term {
	if levels == 1 || r.Intn(6) == 0 {
		return read([]string{"px(x, 1)", "px(x, 2)", "px(y, 1)", "px(y, 2)", "avg(x, 0, 3)", "hi(y, 1, 5)", "lo(x, 5, 9)", "1", "0", "num(-1, 3)", "2.5", "0.005", "px(x, 4)", "7", "px(z, 9999)"}[r.Intn(15)])
	}
	op := api.TNeg + r.Intn(api.TOps-api.TNeg)
	var l []api.Term
	for range term.Arity(op) {
		l = append(l, grown(r, levels-1))
	}
	return join(op, l...)
}

// P14.3: what is printed is parsed as it was; and what is parsed is printed, and that is parsed as the same.
func TestPrintedIsParsed(t *testing.T) {
	r := rand.New(rand.NewSource(143))
	for range 3000 {
		d := random(r)
		good(t, d)
		// Of another text of the same deal comes the same print.
		l := strings.SplitN(deal.Print(d), " ", 8)
		l[4], l[7] = strings.Replace(l[4], "-", "-00", 1), strings.ReplaceAll(l[7], " ", "\n ")
		if got, is := parsed(t, strings.Join(l, " ")); !is || !same(got, d) || deal.Print(got) != deal.Print(d) {
			t.Fatalf("%q is parsed as %v, %t", l, got, is)
		}
	}
}

// P14.3: unlike deals have unlike prints.
func TestUnlikePrints(t *testing.T) {
	seen := map[string]api.Deal{}
	for _, d := range deals() {
		for _, x := range []api.Deal{d, turned(d, func(d *api.Deal) { d.Right = !d.Right }), turned(d, func(d *api.Deal) { d.Day++; d.Day %= 10000 }), turned(d, func(d *api.Deal) { d.Name += "0" }), turned(d, func(d *api.Deal) { d.Long, d.Short = d.Short, d.Long }), turned(d, func(d *api.Deal) { d.Mult = mult("123/456") }), turned(d, func(d *api.Deal) { d.Pay = join(api.TNeg, d.Pay) })} {
			s := deal.Print(x)
			if other, is := seen[s]; is {
				t.Errorf("%v and %v are both printed as %q", other, x, s)
			}
			seen[s] = x
		}
	}
}
