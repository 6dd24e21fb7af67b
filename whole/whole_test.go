package whole_test

import (
	"math/big"
	"math/rand"
	"strings"
	"testing"

	"debenture/whole"
)

// notWholes answers texts that are no whole numbers.
func notWholes() []string {
	return []string{
		"", "-", "-0", "--1", "-01", "-00", "+1", "+0", "1-", "-1-", "- 1", " -1", "-1 ", "00", "01", "-a", "1a", "a", "-1a", "1.0", "-1.5", "\x00", "-\x00",
		"\u22121", "-\u0661", "/", ":", "-/", "-:", "\xff",
		"-0" + strings.Repeat("1", 5000), "-" + strings.Repeat("9", 5000) + "x", strings.Repeat("-", 5000), "-" + strings.Repeat("0", 5000),
	}
}

// edges answers whole numbers at the edges of machine words and of groups of digits, with both signs.
func edges() []string {
	out := []string{"0"}
	for _, size := range []string{
		"1", "2", "3", "5", "6", "7", "9", "10", "12", "35", "99", "100",
		"999999999", "1000000000", "1000000001", "9223372036854775807", "9223372036854775808", "9223372036854775809", "18446744073709551615", "18446744073709551616",
		"99999999999999999999", "100000000000000000000", "1" + strings.Repeat("0", 60), strings.Repeat("9", 61),
	} {
		out = append(out, size, "-"+size)
	}
	return out
}

func number(t *testing.T, s string) *big.Int {
	t.Helper()
	n, ok := new(big.Int).SetString(s, 10)
	if !ok || n.String() != s {
		t.Fatalf("%q is no whole number", s)
	}
	return n
}

// checkPair holds every call of two whole numbers against numbers of the library.
func checkPair(t *testing.T, a, b string) {
	t.Helper()
	x, y := number(t, a), number(t, b)
	if got := whole.Cmp(a, b); got != x.Cmp(y) {
		t.Fatalf("Cmp(%s, %s): %d", a, b, got)
	}
	for name, c := range map[string]struct {
		got  string
		want *big.Int
	}{
		"Add": {whole.Add(a, b), new(big.Int).Add(x, y)},
		"Sub": {whole.Sub(a, b), new(big.Int).Sub(x, y)},
		"Mul": {whole.Mul(a, b), new(big.Int).Mul(x, y)},
	} {
		if c.got != c.want.String() {
			t.Fatalf("%s(%s, %s): %q, not %s", name, a, b, c.got, c.want)
		}
	}
	wantQuotient, wantRest, wantIs := "", "", y.Sign() != 0
	if wantIs {
		q, r := new(big.Int).DivMod(x, y, new(big.Int))
		wantQuotient, wantRest = q.String(), r.String()
	}
	if q, r, is := whole.Div(a, b); q != wantQuotient || r != wantRest || is != wantIs {
		t.Fatalf("Div(%s, %s): %q, %q, %t, not %s, %s", a, b, q, r, is, wantQuotient, wantRest)
	}
}

// P2.1
func TestMay(t *testing.T) {
	for _, s := range append(edges(), "-"+strings.Repeat("1234567890", 10000)) {
		if !whole.May(s) {
			t.Errorf("May(%s): false", s)
		}
	}
	for _, s := range notWholes() {
		if whole.May(s) {
			t.Errorf("May(%q): true", s)
		}
	}
}

// P2.1
func TestOf(t *testing.T) {
	for n, want := range map[int]string{
		0: "0", 1: "1", -1: "-1", 10: "10", -10: "-10", 1<<63 - 1: "9223372036854775807", -1 << 63: "-9223372036854775808", -1<<63 + 1: "-9223372036854775807",
	} {
		if got := whole.Of(n); got != want || !whole.May(got) {
			t.Errorf("Of(%d): %q", n, got)
		}
	}
}

// P2.1
func TestSignAbsNeg(t *testing.T) {
	for s, want := range map[string]struct {
		sign     int
		abs, neg string
	}{
		"0":                         {0, "0", "0"},
		"1":                         {1, "1", "-1"},
		"-1":                        {-1, "1", "1"},
		"120":                       {1, "120", "-120"},
		"-9223372036854775808":      {-1, "9223372036854775808", "9223372036854775808"},
		"100000000000000000000000":  {1, "100000000000000000000000", "-100000000000000000000000"},
		"-100000000000000000000000": {-1, "100000000000000000000000", "100000000000000000000000"},
	} {
		if sign, abs, neg := whole.Sign(s), whole.Abs(s), whole.Neg(s); sign != want.sign || abs != want.abs || neg != want.neg {
			t.Errorf("%s: %d, %q, %q", s, sign, abs, neg)
		}
	}
}

// P2.1
func TestCmp(t *testing.T) {
	row := []string{"-1000000000000000000000", "-999999999999999999999", "-10", "-9", "-1", "0", "1", "9", "10", "999999999999999999999", "1000000000000000000000"}
	for i, a := range row {
		for j, b := range row {
			want := 0
			if i < j {
				want = -1
			}
			if i > j {
				want = 1
			}
			if got := whole.Cmp(a, b); got != want {
				t.Errorf("Cmp(%s, %s): %d", a, b, got)
			}
		}
	}
}

// P2.1 and P2.2
func TestTextsThatAreNoWholeNumbers(t *testing.T) {
	for _, wrong := range notWholes() {
		if whole.Sign(wrong) != 0 || whole.Abs(wrong) != "" || whole.Neg(wrong) != "" {
			t.Errorf("%q: %d, %q, %q", wrong, whole.Sign(wrong), whole.Abs(wrong), whole.Neg(wrong))
		}
		for _, other := range []string{"0", "1", "-1", "7", "-12345678901234567890", "x", "-0", wrong} {
			for _, pair := range [][2]string{{wrong, other}, {other, wrong}} {
				a, b := pair[0], pair[1]
				if got := whole.Cmp(a, b); got != 0 {
					t.Errorf("Cmp(%q, %q): %d", a, b, got)
				}
				if got := whole.Add(a, b) + whole.Sub(a, b) + whole.Mul(a, b); got != "" {
					t.Errorf("sum, difference, product of %q, %q: %q", a, b, got)
				}
				if q, r, is := whole.Div(a, b); q != "" || r != "" || is {
					t.Errorf("Div(%q, %q): %q, %q, %t", a, b, q, r, is)
				}
			}
		}
	}
}

// P2.2
func TestReckoning(t *testing.T) {
	for _, c := range []struct{ a, b, sum, difference, product, quotient, rest string }{
		{"7", "2", "9", "5", "14", "3", "1"},
		{"-7", "2", "-5", "-9", "-14", "-4", "1"},
		{"7", "-2", "5", "9", "-14", "-3", "1"},
		{"-7", "-2", "-9", "-5", "14", "4", "1"},
		{"-6", "3", "-3", "-9", "-18", "-2", "0"},
		{"-6", "-3", "-9", "-3", "18", "2", "0"},
		{"2", "7", "9", "-5", "14", "0", "2"},
		{"-2", "7", "5", "-9", "-14", "-1", "5"},
		{"2", "-7", "-5", "9", "-14", "0", "2"},
		{"-2", "-7", "-9", "5", "14", "1", "5"},
		{"5", "-5", "0", "10", "-25", "-1", "0"},
		{"-5", "5", "0", "-10", "-25", "-1", "0"},
		{"0", "-5", "-5", "5", "0", "0", "0"},
		{"-9223372036854775808", "-1", "-9223372036854775809", "-9223372036854775807", "9223372036854775808", "9223372036854775808", "0"},
		{"-100000000000000000000", "3", "-99999999999999999997", "-100000000000000000003", "-300000000000000000000", "-33333333333333333334", "2"},
	} {
		if got := whole.Add(c.a, c.b); got != c.sum {
			t.Errorf("Add(%s, %s): %q", c.a, c.b, got)
		}
		if got := whole.Sub(c.a, c.b); got != c.difference {
			t.Errorf("Sub(%s, %s): %q", c.a, c.b, got)
		}
		if got := whole.Mul(c.a, c.b); got != c.product {
			t.Errorf("Mul(%s, %s): %q", c.a, c.b, got)
		}
		if q, r, is := whole.Div(c.a, c.b); q != c.quotient || r != c.rest || !is {
			t.Errorf("Div(%s, %s): %q, %q, %t", c.a, c.b, q, r, is)
		}
	}
}

// P2.2
func TestDivisionByZero(t *testing.T) {
	for _, a := range edges() {
		if q, r, is := whole.Div(a, "0"); q != "" || r != "" || is {
			t.Errorf("Div(%s, 0): %q, %q, %t", a, q, r, is)
		}
	}
}

// P2.1 to P2.3
func TestPairs(t *testing.T) {
	for _, a := range edges() {
		for _, b := range edges() {
			checkPair(t, a, b)
		}
	}
	r := rand.New(rand.NewSource(1))
	for range 5000 {
		checkPair(t, random(r, 40), random(r, 30))
		checkPair(t, random(r, 2), random(r, 2))
	}
}

func random(r *rand.Rand, length int) string {
	out := make([]byte, 1+r.Intn(length))
	for i := range out {
		out[i] = byte('0' + r.Intn(10))
	}
	n, _ := new(big.Int).SetString(string(out), 10)
	if r.Intn(2) == 0 {
		n.Neg(n)
	}
	return n.String()
}

// checkLaws holds what follows from sums, products and quotients.
func checkLaws(t *testing.T, a, b, c string) {
	t.Helper()
	if whole.Add(a, b) != whole.Add(b, a) || whole.Add(whole.Add(a, b), c) != whole.Add(a, whole.Add(b, c)) || whole.Add(a, "0") != a {
		t.Errorf("sums of %s, %s, %s", a, b, c)
	}
	if whole.Sub(a, b) != whole.Add(a, whole.Neg(b)) || whole.Sub(a, a) != "0" || whole.Sub(a, b) != whole.Neg(whole.Sub(b, a)) {
		t.Errorf("differences of %s, %s", a, b)
	}
	if whole.Mul(a, b) != whole.Mul(b, a) || whole.Mul(whole.Mul(a, b), c) != whole.Mul(a, whole.Mul(b, c)) || whole.Mul(a, "1") != a || whole.Mul(a, "-1") != whole.Neg(a) {
		t.Errorf("products of %s, %s, %s", a, b, c)
	}
	if whole.Mul(a, whole.Add(b, c)) != whole.Add(whole.Mul(a, b), whole.Mul(a, c)) {
		t.Errorf("product of %s and a sum of %s, %s", a, b, c)
	}
	if whole.Sign(whole.Sub(a, b)) != whole.Cmp(a, b) || whole.Cmp(a, b) != -whole.Cmp(b, a) || whole.Cmp(whole.Add(a, c), whole.Add(b, c)) != whole.Cmp(a, b) {
		t.Errorf("order of %s, %s, %s", a, b, c)
	}
	if whole.Sign(whole.Mul(a, b)) != whole.Sign(a)*whole.Sign(b) || whole.Abs(whole.Mul(a, b)) != whole.Mul(whole.Abs(a), whole.Abs(b)) || whole.Neg(whole.Neg(a)) != a {
		t.Errorf("signs of %s, %s", a, b)
	}
	if b == "0" {
		return
	}
	quotient, rest, is := whole.Div(a, b)
	if !is || whole.Sign(rest) < 0 || whole.Cmp(rest, whole.Abs(b)) >= 0 || whole.Add(whole.Mul(quotient, b), rest) != a {
		t.Errorf("quotient of %s, %s", a, b)
	}
}

// P2.3
func TestLaws(t *testing.T) {
	all := edges()
	for i, a := range all {
		for j, b := range all {
			checkLaws(t, a, b, all[(i*7+j*3)%len(all)])
		}
	}
	r := rand.New(rand.NewSource(2))
	for range 300 {
		checkLaws(t, random(r, 600), random(r, 600), random(r, 600))
	}
	checkLaws(t, random(r, 12000), random(r, 9000), random(r, 20000))
}

// R1 and P1: long arguments too come to an end.
func TestLongOnes(t *testing.T) {
	nines := strings.Repeat("9", 1000000)
	round := "1" + strings.Repeat("0", 1000000)
	if whole.Sub("-"+nines, "1") != "-"+round || whole.Add("-"+round, "1") != "-"+nines || whole.Cmp("-"+nines, "-"+round) != 1 {
		t.Error("a million digits and 1")
	}
	if q, r, is := whole.Div("-"+nines, "9"); q != "-"+strings.Repeat("1", 1000000) || r != "0" || !is {
		t.Error("a million digits by 9")
	}
	if q, r, is := whole.Div("-"+round, "-9"); q != strings.Repeat("1", 999999)+"2" || r != "8" || !is {
		t.Error("a million zeros by -9")
	}
}
