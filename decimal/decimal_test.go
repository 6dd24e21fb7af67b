package decimal_test

import (
	"math/big"
	"math/rand"
	"regexp"
	"strings"
	"testing"

	"debenture/api"
	"debenture/decimal"
	"debenture/rat"
)

const (
	most  = 1<<63 - 1
	least = -1 << 63
)

// notRats answers Rats that may not be.
func notRats() []api.Rat {
	out := []api.Rat{
		{}, {Num: "1"}, {Den: "1"}, {Num: "0"}, {Den: "0"}, {Den: "2"}, {Den: "3"}, {Den: "10"},
		{Num: "0", Den: "0"}, {Num: "1", Den: "0"}, {Num: "-1", Den: "0"}, {Num: "1", Den: "00"}, {Num: "1", Den: "000"},
		{Num: "0", Den: "2"}, {Num: "0", Den: "10"}, {Num: "-0", Den: "1"}, {Num: "0", Den: "-1"},
		{Num: "1", Den: "-1"}, {Num: "1", Den: "-10"}, {Num: "-1", Den: "-3"}, {Num: "1", Den: "010"}, {Num: "01", Den: "10"}, {Num: "1", Den: "+2"}, {Num: "+1", Den: "2"},
		{Num: "2", Den: "2"}, {Num: "2", Den: "4"}, {Num: "-5", Den: "10"}, {Num: "10", Den: "100"}, {Num: "-6", Den: "9"},
		{Num: "100000000000000000000", Den: "10"}, {Num: "536870912", Den: "1073741824"},
		{Num: strings.Repeat("3", 3000), Den: strings.Repeat("7", 3000)}, {Num: "5", Den: "1" + strings.Repeat("0", 3000)},
	}
	for _, wrong := range []string{"", "-", "-0", "--1", "-01", "+1", "1-", " 1", "1 ", "1\n", "01", "a", "1a", "1x0", "1.0", "0.5", "1e3", "1/2", "\x00", "1\x00", "\xff", "\u0661", strings.Repeat("9", 3000) + "x"} {
		out = append(out, api.Rat{Num: wrong, Den: "1"}, api.Rat{Num: wrong, Den: "10"}, api.Rat{Num: wrong, Den: "3"}, api.Rat{Num: "1", Den: wrong}, api.Rat{Num: wrong, Den: wrong})
	}
	return out
}

// wrongTexts answers texts of none of the forms.
func wrongTexts() []string {
	return []string{
		"", "-", ".", "/", "-.", "-/", "./", "/.", "--", "..", "//", ".5", "-.5", "5.", "-5.", "1..2", "1.2.3", "..1", "1.-5", "1.+5", "1. 5", "1 .5", "1.5 ", " 1.5", "1.5\n", "1.5-", "1.5.",
		"1/0", "-1/0", "0/0", "1/00", "1/000000000000000000000000000000", "1/", "-1/", "/1", "-/1", "1//2", "1/2/3", "/1/2", "1/2/", "1/-2", "-1/-2", "1/+2", "1/ 2", "1 /2", "1/2 ", " 1/2", "1/2\n",
		"1.5/2", "1/2.5", "1./2", "1/.5", "1/2.", "0.5/0.5", ".1/2", "1.2/3.4", "1/2-", "1-/2", "0/0.0",
		"+1", "+0", "+1.5", "+1/2", "--1", "--1.5", "--1/2", "-+1", "+-1", "- 1", "1-", "-1-", "1-1", "-0-", "0-0",
		"1e5", "1E5", "1.5e3", "1e-5", "1,5", "1,000", "1_000", "0x1", "0x1/2", "0b1", "0o7", "1a", "a", "a.5", "5.a", "1/a", "a/1", "inf", "NaN", "1p4", "1:2", "1%", "\u22121", "\u0661", "1.\u0661", "\uff11", "1\u00a0",
		" ", " 1", "1 ", "\t1", "1\n", "1\r\n", "\x00", "1\x00", "\x001", "\xff", "1\xff", "1.\xff", "1/\xff", "1.0\x80",
		strings.Repeat("1", 500) + "x" + strings.Repeat("1", 499), strings.Repeat("-", 1000), strings.Repeat(".", 1000), strings.Repeat("/", 1000), "1/" + strings.Repeat("0", 998), "." + strings.Repeat("5", 999), strings.Repeat("5", 999) + ".",
	}
}

// edges answers Rats of both signs: whole ones, those between -1 and 1, dens that are powers of ten, of two, of five, of both, and others.
func edges() []api.Rat {
	out := []api.Rat{{Num: "0", Den: "1"}}
	nums := []string{"1", "3", "7", "10", "33", "99", "100", "101", "999999999", "1000000000", "9223372036854775807", "9223372036854775808", "18446744073709551617", "1" + strings.Repeat("0", 60), strings.Repeat("9", 61)}
	dens := []string{
		"1", "10", "100", "1000", "1000000000", "10000000000", "1" + strings.Repeat("0", 30),
		"2", "4", "8", "512", "1024", "268435456", "536870912", "1073741824", "288230376151711744", "9223372036854775808",
		"5", "25", "125", "48828125", "244140625", "1220703125", "59604644775390625",
		"20", "50", "40", "250", "80", "1250", "5368709120", "2441406250", "12800", "31250000",
		"3", "7", "9", "11", "6", "12", "14", "15", "30", "35", "70", "300", "9000", "1610612736", "732421875", "3221225472", "7000000000", "3000000000000000000000", "9223372036854775807", "1000000007",
	}
	for _, num := range nums {
		for _, den := range dens {
			for _, sign := range []string{"", "-"} {
				n, _ := new(big.Rat).SetString(sign + num + "/" + den)
				out = append(out, of(n))
			}
		}
	}
	return out
}

// of answers the Rat of the library's number.
func of(x *big.Rat) api.Rat {
	return api.Rat{Num: x.Num().String(), Den: x.Denom().String()}
}

// number answers the library's number of a Rat.
func number(t *testing.T, x api.Rat) *big.Rat {
	t.Helper()
	n, is := new(big.Rat).SetString(x.Num + "/" + x.Den)
	if !is || of(n) != x {
		t.Fatalf("%v is no Rat that may be", x)
	}
	return n
}

// checkOne holds Places and Print against the library, and reads again what is printed.
func checkOne(t *testing.T, x api.Rat) {
	t.Helper()
	n := number(t, x)
	places, is := n.FloatPrec()
	want := n.FloatString(places)
	if !is {
		places, want = 0, x.Num+"/"+x.Den
	}
	if got, gotIs := decimal.Places(x); got != places || gotIs != is {
		t.Fatalf("Places(%v): %d, %t, not %d, %t", x, got, gotIs, places, is)
	}
	printed := decimal.Print(x)
	if printed != want {
		t.Fatalf("Print(%v): %q, not %q", x, printed, want)
	}
	got, e := decimal.Parse(printed)
	if len(printed) > 1000 {
		if got != (api.Rat{}) || e != api.ErrDecimal {
			t.Fatalf("Parse of %d bytes: %v, %d", len(printed), got, e)
		}
		return
	}
	if got != x || e != api.OK {
		t.Fatalf("Parse(%q): %v, %d, not %v", printed, got, e, x)
	}
}

// form is the sign, the digits ahead, and those behind a point or a stroke.
var form = regexp.MustCompile(`\A(-?)([0-9]+)(?:\.([0-9]+)|/([0-9]*[1-9][0-9]*))?\z`)

// read answers the Rat of a text by other means, and whether the text has one of the forms.
func read(s string) (api.Rat, bool) {
	found := form.FindStringSubmatch(s)
	if found == nil || len(s) > 1000 {
		return api.Rat{}, false
	}
	num, _ := new(big.Int).SetString(found[1]+found[2]+found[3], 10)
	den := new(big.Int).Exp(big.NewInt(10), big.NewInt(int64(len(found[3]))), nil)
	if found[4] != "" {
		den.SetString(found[4], 10)
	}
	return of(new(big.Rat).SetFrac(num, den)), true
}

// checkText holds Parse against what the text is by other means.
func checkText(t *testing.T, s string) {
	t.Helper()
	want, is := read(s)
	wantErrno := api.OK
	if !is {
		wantErrno = api.ErrDecimal
	}
	if got, e := decimal.Parse(s); got != want || e != wantErrno {
		t.Fatalf("Parse(%q): %v, %d, not %v, %d", s, got, e, want, wantErrno)
	}
}

// P4.1
func TestPlaces(t *testing.T) {
	for _, c := range []struct {
		num, den string
		places   int
		is       bool
	}{
		{"0", "1", 0, true}, {"1", "1", 0, true}, {"-7", "1", 0, true}, {"100", "1", 0, true}, {"9223372036854775808", "1", 0, true},
		{"1", "10", 1, true}, {"-1", "100", 2, true}, {"123", "1000", 3, true}, {"7", "1000000000", 9, true}, {"1", "1" + strings.Repeat("0", 40), 40, true},
		{"1", "2", 1, true}, {"1", "4", 2, true}, {"3", "8", 3, true}, {"-1", "1024", 10, true}, {"1", "536870912", 29, true}, {"1", "1073741824", 30, true}, {"1", "9223372036854775808", 63, true},
		{"1", "5", 1, true}, {"1", "25", 2, true}, {"-3", "125", 3, true}, {"1", "244140625", 12, true}, {"1", "1220703125", 13, true},
		{"1", "20", 2, true}, {"1", "50", 2, true}, {"1", "40", 3, true}, {"1", "250", 3, true}, {"-1", "12800", 9, true}, {"1", "31250000", 9, true},
		{"1", "3", 0, false}, {"-1", "3", 0, false}, {"1", "6", 0, false}, {"22", "7", 0, false}, {"1", "30", 0, false}, {"1", "15", 0, false}, {"1", "12", 0, false}, {"1", "700", 0, false}, {"1", "1610612736", 0, false}, {"1", "732421875", 0, false}, {"1", "3" + strings.Repeat("0", 40), 0, false},
	} {
		x := api.Rat{Num: c.num, Den: c.den}
		if got, is := decimal.Places(x); got != c.places || is != c.is {
			t.Errorf("Places(%v): %d, %t", x, got, is)
		}
	}
}

// P4.1: of every product of two's and five's powers the places are the greater exponent; with any other divisor there are none.
func TestPlacesOfPowers(t *testing.T) {
	for twos := range 70 {
		for fives := range 40 {
			den := new(big.Int).Exp(big.NewInt(5), big.NewInt(int64(fives)), nil)
			den.Lsh(den, uint(twos))
			if got, is := decimal.Places(api.Rat{Num: "1", Den: den.String()}); got != max(twos, fives) || !is {
				t.Fatalf("2^%d 5^%d: %d, %t", twos, fives, got, is)
			}
			for _, other := range []int64{3, 7, 9, 11, 13, 99} {
				x := api.Rat{Num: "-1", Den: new(big.Int).Mul(den, big.NewInt(other)).String()}
				if got, is := decimal.Places(x); got != 0 || is {
					t.Fatalf("%d 2^%d 5^%d: %d, %t", other, twos, fives, got, is)
				}
			}
		}
	}
}

// P4.1
func TestPrint(t *testing.T) {
	for want, x := range map[string]api.Rat{
		"0": {Num: "0", Den: "1"}, "7": {Num: "7", Den: "1"}, "-7": {Num: "-7", Den: "1"}, "100": {Num: "100", Den: "1"}, "-1000": {Num: "-1000", Den: "1"},
		"9223372036854775807": rat.Of(most), "-9223372036854775808": rat.Of(least),
		"-12.5": {Num: "-25", Den: "2"}, "0.5": {Num: "1", Den: "2"}, "-0.5": {Num: "-1", Den: "2"}, "-0.25": {Num: "-1", Den: "4"}, "0.005": {Num: "1", Den: "200"}, "-0.005": {Num: "-1", Den: "200"}, "1.05": {Num: "21", Den: "20"}, "-1.05": {Num: "-21", Den: "20"},
		"10.1": {Num: "101", Den: "10"}, "100.001": {Num: "100001", Den: "1000"}, "0.1": {Num: "1", Den: "10"}, "0.000000001": {Num: "1", Den: "1000000000"}, "-0.999": {Num: "-999", Den: "1000"}, "0.2": {Num: "1", Den: "5"}, "0.04": {Num: "1", Den: "25"}, "0.375": {Num: "3", Den: "8"},
		"1/3": {Num: "1", Den: "3"}, "-22/7": {Num: "-22", Den: "7"}, "-1/6": {Num: "-1", Den: "6"}, "100/3": {Num: "100", Den: "3"}, "1/30": {Num: "1", Den: "30"}, "-7/15": {Num: "-7", Den: "15"},
		"99999999999999999999.99": {Num: "9999999999999999999999", Den: "100"}, "0.00000000000000000000000000000000000000001": {Num: "1", Den: "1" + strings.Repeat("0", 41)},
	} {
		if got := decimal.Print(x); got != want {
			t.Errorf("Print(%v): %q, not %q", x, got, want)
		}
	}
}

// P4.1
func TestRatsThatMayNotBe(t *testing.T) {
	for _, x := range notRats() {
		if got := decimal.Print(x); got != "" {
			t.Errorf("Print(%q over %q): %q", x.Num, x.Den, got)
		}
		if got, is := decimal.Places(x); got != 0 || is {
			t.Errorf("Places(%q over %q): %d, %t", x.Num, x.Den, got, is)
		}
	}
}

// P4.2
func TestParse(t *testing.T) {
	zero := api.Rat{Num: "0", Den: "1"}
	for s, want := range map[string]api.Rat{
		"0": zero, "-0": zero, "00": zero, "-000": zero, "0.0": zero, "-0.0": zero, "-00.000": zero, "0/1": zero, "-0/1": zero, "00/5": zero, "-000/070": zero, "0/10": zero,
		"7": rat.Of(7), "-7": rat.Of(-7), "007": rat.Of(7), "-007": rat.Of(-7), "1000": rat.Of(1000), "1.0": rat.Of(1), "-1.000": rat.Of(-1), "100.00": rat.Of(100), "9223372036854775807": rat.Of(most), "-9223372036854775808": rat.Of(least),
		"-12.50": {Num: "-25", Den: "2"}, "12.5": {Num: "25", Den: "2"}, "0.5": {Num: "1", Den: "2"}, "-0.5": {Num: "-1", Den: "2"}, "000.500": {Num: "1", Den: "2"}, "0.005": {Num: "1", Den: "200"}, "-0.05": {Num: "-1", Den: "20"}, "1.05": {Num: "21", Den: "20"}, "0.10": {Num: "1", Den: "10"}, "-010.010": {Num: "-1001", Den: "100"},
		"1/3": {Num: "1", Den: "3"}, "2/6": {Num: "1", Den: "3"}, "-2/6": {Num: "-1", Den: "3"}, "010/030": {Num: "1", Den: "3"}, "-0022/007": {Num: "-22", Den: "7"}, "6/2": rat.Of(3), "-5/5": rat.Of(-1), "1/10": {Num: "1", Den: "10"}, "2/4": {Num: "1", Den: "2"}, "1/0000000000000000000000000000002": {Num: "1", Den: "2"}, "-1/001": rat.Of(-1),
		"18446744073709551616.5": {Num: "36893488147419103233", Den: "2"}, "1/18446744073709551616": {Num: "1", Den: "18446744073709551616"}, "8/9": {Num: "8", Den: "9"}, "08/09": {Num: "8", Den: "9"},
	} {
		if got, e := decimal.Parse(s); got != want || e != api.OK {
			t.Errorf("Parse(%q): %v, %d, not %v", s, got, e, want)
		}
	}
}

// P4.2
func TestParseOfWrongTexts(t *testing.T) {
	for _, s := range wrongTexts() {
		if got, e := decimal.Parse(s); got != (api.Rat{}) || e != api.ErrDecimal {
			t.Errorf("Parse(%q): %v, %d", s, got, e)
		}
	}
}

// P4.2: a thousand bytes are read, one more is not, whatever they are.
func TestParseOfLongTexts(t *testing.T) {
	for _, text := range []func(bytes int) string{
		func(bytes int) string { return strings.Repeat("7", bytes) },
		func(bytes int) string { return "-" + strings.Repeat("9", bytes-1) },
		func(bytes int) string { return strings.Repeat("0", bytes) },
		func(bytes int) string { return "-" + strings.Repeat("0", bytes-2) + "1" },
		func(bytes int) string { return "0." + strings.Repeat("3", bytes-2) },
		func(bytes int) string { return "-1." + strings.Repeat("0", bytes-3) },
		func(bytes int) string { return strings.Repeat("1", bytes-2) + ".5" },
		func(bytes int) string { return "1/" + strings.Repeat("6", bytes-2) },
		func(bytes int) string { return "-3/" + strings.Repeat("0", bytes-4) + "6" },
		func(bytes int) string {
			return strings.Repeat("4", bytes/2) + "/" + strings.Repeat("6", bytes-1-bytes/2)
		},
	} {
		for _, bytes := range []int{998, 999, 1000} {
			s := text(bytes)
			if _, is := read(s); !is || len(s) != bytes {
				t.Fatalf("%q should be one", s)
			}
			checkText(t, s)
		}
		for _, bytes := range []int{1001, 1002, 2000, 100000} {
			if got, e := decimal.Parse(text(bytes)); got != (api.Rat{}) || e != api.ErrDecimal {
				t.Errorf("Parse of %d bytes: %d", bytes, e)
			}
		}
	}
}

// P4.2: all short texts of these bytes.
func TestParseOfAllShortTexts(t *testing.T) {
	texts := []string{""}
	for len(texts[0]) < 6 {
		var longer []string
		for _, s := range texts {
			checkText(t, s)
			for _, b := range "-.05/3" {
				longer = append(longer, s+string(b))
			}
		}
		texts = longer
	}
	for _, s := range texts {
		checkText(t, s)
	}
}

// P4.2: of a text that is read, each byte is put in the place of each other one, or between them, or left out.
func TestParseOfChangedTexts(t *testing.T) {
	for _, s := range []string{"0", "-12.50", "007.100", "-22/7", "010/030", "0/5", "1/10"} {
		for at := range len(s) + 1 {
			for b := range 256 {
				checkText(t, s[:at]+string([]byte{byte(b)})+s[at:])
				if at < len(s) {
					checkText(t, s[:at]+string([]byte{byte(b)})+s[at+1:])
				}
			}
			if at < len(s) {
				checkText(t, s[:at]+s[at+1:])
			}
		}
	}
}

// P4.3 and P2, and P4.1 by other means.
func TestPrintedIsRead(t *testing.T) {
	for _, x := range edges() {
		checkOne(t, x)
	}
	for num := int64(-120); num <= 120; num++ {
		for den := int64(1); den <= 130; den++ {
			checkOne(t, of(big.NewRat(num, den)))
		}
	}
	r := rand.New(rand.NewSource(1))
	for range 3000 {
		num := big.NewInt(r.Int63() - r.Int63())
		den := new(big.Int).Exp(big.NewInt(5), big.NewInt(int64(r.Intn(60))), nil)
		den.Lsh(den, uint(r.Intn(130)))
		if r.Intn(4) == 0 {
			den.Mul(den, big.NewInt(1+r.Int63n(20)))
		}
		checkOne(t, of(new(big.Rat).SetFrac(num, den)))
	}
}

// P4.3: at a thousand bytes what is printed is read, above it is not.
func TestPrintedAtTheLimit(t *testing.T) {
	for _, digits := range []int{996, 997, 998, 999, 1000, 1001, 1500} {
		ten := "1" + strings.Repeat("0", digits-1)
		for _, sign := range []string{"", "-"} {
			checkOne(t, api.Rat{Num: sign + strings.Repeat("7", digits), Den: "1"})
			checkOne(t, api.Rat{Num: sign + "3", Den: ten})
			checkOne(t, api.Rat{Num: sign + ten, Den: "3"})
			checkOne(t, api.Rat{Num: sign + strings.Repeat("7", digits), Den: "2"})
			checkOne(t, api.Rat{Num: sign + "1", Den: strings.Repeat("3", digits)})
			checkOne(t, of(new(big.Rat).SetFrac(big.NewInt(-7), new(big.Int).Exp(big.NewInt(2), big.NewInt(int64(digits)), nil))))
			checkOne(t, of(new(big.Rat).SetFrac(big.NewInt(7), new(big.Int).Exp(big.NewInt(5), big.NewInt(int64(digits)), nil))))
		}
	}
}

// R1 and P1: long arguments too come to an end, and are exact.
func TestLongOnes(t *testing.T) {
	nines := strings.Repeat("9", 100000)
	for _, c := range []struct {
		x    api.Rat
		want string
	}{
		{api.Rat{Num: "-" + nines, Den: "1"}, "-" + nines},
		{api.Rat{Num: nines, Den: "10"}, nines[1:] + ".9"},
		{api.Rat{Num: "-1", Den: "1" + strings.Repeat("0", 100000)}, "-0." + strings.Repeat("0", 99999) + "1"},
		{api.Rat{Num: "1" + strings.Repeat("0", 100000), Den: "7"}, "1" + strings.Repeat("0", 100000) + "/7"},
	} {
		if got := decimal.Print(c.x); got != c.want {
			t.Errorf("Print of %d and %d digits", len(c.x.Num), len(c.x.Den))
		}
	}
	for _, base := range []int64{2, 5, 6} {
		den := new(big.Int).Exp(big.NewInt(base), big.NewInt(20001), nil)
		checkOne(t, of(new(big.Rat).SetFrac(big.NewInt(-13), den)))
	}
	for _, s := range []string{strings.Repeat("-", 1<<20), strings.Repeat("1", 1<<20), strings.Repeat("/", 1<<20), "1." + strings.Repeat("\xff", 1<<20)} {
		if got, e := decimal.Parse(s); got != (api.Rat{}) || e != api.ErrDecimal {
			t.Errorf("Parse of %d bytes: %v, %d", len(s), got, e)
		}
	}
}

// R3: what was read or printed before is not kept.
func TestAnswersAgain(t *testing.T) {
	for range 3 {
		for _, s := range []string{"-12.50", "x", "2/6", "1/0", "0.1", ""} {
			checkText(t, s)
		}
		for _, x := range edges()[:200] {
			checkOne(t, x)
		}
		for _, x := range notRats() {
			if got := decimal.Print(x); got != "" {
				t.Errorf("Print(%v): %q", x, got)
			}
		}
	}
}
