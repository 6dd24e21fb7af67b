package nat_test

import (
	"math/big"
	"math/rand"
	"strings"
	"testing"

	"debenture/nat"
)

// notNaturals answers texts that are no naturals.
func notNaturals() []string {
	return []string{
		"", "00", "01", "007", "-0", "-1", "+1", " 1", "1 ", "1\n", "1a", "a", "0x10", "1_000", "1.0", "1e3", "\x00", "1\x00",
		"/", ":", "1/", "1:", "\xff", "\u0661", "\uff11",
		"0" + strings.Repeat("1", 5000), strings.Repeat("9", 5000) + "x", strings.Repeat("0", 5000),
	}
}

// awkward answers naturals at the edges of machine words, and of groups of digits.
func awkward() []string {
	out := []string{
		"2", "3", "7", "12", "18", "499999999", "500000000", "500000001", "333333333",
		"2147483647", "2147483648", "4294967295", "4294967296", "9007199254740993",
		"9223372036854775807", "9223372036854775808", "18446744073709551615", "18446744073709551616", "18446744073709551617",
		// Quotients whose limbs are told too great by one, by two, and as the base or more, when only the highest limbs are seen.
		"500000000000000000999999999", "1500000000000000000000000000000000000", "3500000000000000006999999992",
		"500000000999999999", "499999999999999999999999999", "500000000999999998999999999",
		"999999999000000000999999999", "999999999000000000000000000000000000", "999999999000000000999999998999999999",
		"500000000000000000000000001", "500000000000000000000000000999999999", "500000000999999999999999999999999999",
	}
	for _, length := range []int{0, 1, 2, 8, 9, 10, 17, 18, 19, 26, 27, 28, 36, 45, 80, 81, 82, 90} {
		zeros := strings.Repeat("0", length)
		out = append(out, "1"+zeros)
		if length > 0 {
			out = append(out, strings.Repeat("9", length), "1"+zeros[1:]+"1")
		}
	}
	return append(out, "0")
}

func digitsOf(r *rand.Rand, length int) string {
	kinds := []string{"0123456789", "0000000009", "9999999990", "0", "9"}
	kind := kinds[r.Intn(len(kinds))]
	out := []byte{byte('1' + r.Intn(9))}
	for len(out) < length {
		out = append(out, kind[r.Intn(len(kind))])
	}
	return string(out)
}

func number(t *testing.T, s string) *big.Int {
	t.Helper()
	n, ok := new(big.Int).SetString(s, 10)
	if !ok || n.String() != s {
		t.Fatalf("%q is no natural", s)
	}
	return n
}

// checkPair holds every call of two naturals against numbers of the library.
func checkPair(t *testing.T, a, b string) {
	t.Helper()
	x, y := number(t, a), number(t, b)
	if got := nat.Cmp(a, b); got != x.Cmp(y) {
		t.Fatalf("Cmp(%s, %s): %d", a, b, got)
	}
	if got, want := nat.Add(a, b), new(big.Int).Add(x, y).String(); got != want {
		t.Fatalf("Add(%s, %s): %s, not %s", a, b, got, want)
	}
	if got, want := nat.Mul(a, b), new(big.Int).Mul(x, y).String(); got != want {
		t.Fatalf("Mul(%s, %s): %s, not %s", a, b, got, want)
	}
	if got, want := nat.Gcd(a, b), new(big.Int).GCD(nil, nil, x, y).String(); got != want {
		t.Fatalf("Gcd(%s, %s): %s, not %s", a, b, got, want)
	}
	wantLess, wantIs := "", x.Cmp(y) >= 0
	if wantIs {
		wantLess = new(big.Int).Sub(x, y).String()
	}
	if got, is := nat.Sub(a, b); got != wantLess || is != wantIs {
		t.Fatalf("Sub(%s, %s): %s, %t, not %s", a, b, got, is, wantLess)
	}
	wantQuotient, wantRest, wantIs := "", "", y.Sign() != 0
	if wantIs {
		q, r := new(big.Int).QuoRem(x, y, new(big.Int))
		wantQuotient, wantRest = q.String(), r.String()
	}
	if q, r, is := nat.Div(a, b); q != wantQuotient || r != wantRest || is != wantIs {
		t.Fatalf("Div(%s, %s): %s, %s, %t, not %s, %s", a, b, q, r, is, wantQuotient, wantRest)
	}
}

// P1.1
func TestMay(t *testing.T) {
	for _, s := range awkward() {
		if !nat.May(s) {
			t.Errorf("May(%s): false", s)
		}
	}
	for digit := range 10 {
		if s := string(rune('0' + digit)); !nat.May(s) || !nat.May("1"+s) || nat.May("0"+s) {
			t.Errorf("May with %s", s)
		}
	}
	if !nat.May(strings.Repeat("1234567890", 10000)) {
		t.Error("May of 100000 digits: false")
	}
	for _, s := range notNaturals() {
		if nat.May(s) {
			t.Errorf("May(%q): true", s)
		}
	}
}

// P1.1
func TestOfAndSmall(t *testing.T) {
	for n, want := range map[int]string{
		0: "0", 1: "1", 9: "9", 10: "10", 999999999: "999999999", 1000000000: "1000000000", 1<<63 - 1: "9223372036854775807",
	} {
		if got := nat.Of(n); got != want {
			t.Errorf("Of(%d): %q", n, got)
		}
		if got, is := nat.Small(want); got != n || !is {
			t.Errorf("Small(%s): %d, %t", want, got, is)
		}
	}
	for _, n := range []int{-1, -10, -1 << 63} {
		if got := nat.Of(n); got != "" {
			t.Errorf("Of(%d): %q", n, got)
		}
	}
	for _, s := range append(notNaturals(), "9223372036854775808", "9223372036854775810", "10000000000000000000", "18446744073709551616", "18446744073709551617", "1"+strings.Repeat("0", 5000)) {
		if got, is := nat.Small(s); got != 0 || is {
			t.Errorf("Small(%q): %d, %t", s, got, is)
		}
	}
}

// P1.1
func TestCmp(t *testing.T) {
	long := strings.Repeat("9", 5000)
	for _, c := range []struct {
		a, b string
		want int
	}{
		{"0", "0", 0}, {"0", "1", -1}, {"9", "10", -1}, {"10", "9", 1}, {"19", "21", -1}, {"123", "123", 0},
		{long, long, 0}, {long, "1" + long, -1}, {long[1:] + "8", long, -1}, {long, "8" + long[1:], 1},
	} {
		if got := nat.Cmp(c.a, c.b); got != c.want {
			t.Errorf("Cmp(%s, %s): %d", c.a, c.b, got)
		}
	}
}

// P1.1 and P1.2
func TestTextsThatAreNoNaturals(t *testing.T) {
	for _, wrong := range notNaturals() {
		for _, other := range []string{"0", "1", "5", "12345678901234567890", "x", wrong} {
			for _, pair := range [][2]string{{wrong, other}, {other, wrong}} {
				a, b := pair[0], pair[1]
				if got := nat.Cmp(a, b); got != 0 {
					t.Errorf("Cmp(%q, %q): %d", a, b, got)
				}
				if got := nat.Add(a, b) + nat.Mul(a, b) + nat.Gcd(a, b); got != "" {
					t.Errorf("sum, product, divisor of %q, %q: %q", a, b, got)
				}
				if got, is := nat.Sub(a, b); got != "" || is {
					t.Errorf("Sub(%q, %q): %q, %t", a, b, got, is)
				}
				if q, r, is := nat.Div(a, b); q != "" || r != "" || is {
					t.Errorf("Div(%q, %q): %q, %q, %t", a, b, q, r, is)
				}
			}
		}
	}
}

// P1.2
func TestReckoning(t *testing.T) {
	for _, c := range []struct{ a, b, sum, product, quotient, rest, divisor string }{
		{"0", "1", "1", "0", "0", "0", "1"},
		{"1", "1", "2", "1", "1", "0", "1"},
		{"7", "7", "14", "49", "1", "0", "7"},
		{"84", "30", "114", "2520", "2", "24", "6"},
		{"999999999", "1", "1000000000", "999999999", "999999999", "0", "1"},
		{"1000000000", "999999999", "1999999999", "999999999000000000", "1", "1", "1"},
		{"1000000000000000000000", "7", "1000000000000000000007", "7000000000000000000000", "142857142857142857142", "6", "1"},
		{"500000000000000000999999999", "500000000000000001000000000", "1000000000000000001999999999", "250000000000000000999999999500000000999999999000000000", "0", "500000000000000000999999999", "1"},
		{"1500000000000000000000000000", "500000000000000000999999999", "2000000000000000000999999999", "750000000000000001499999998500000000000000000000000000", "2", "499999999999999998000000002", "1"},
	} {
		if got := nat.Add(c.a, c.b); got != c.sum {
			t.Errorf("Add(%s, %s): %s", c.a, c.b, got)
		}
		if got := nat.Mul(c.a, c.b); got != c.product {
			t.Errorf("Mul(%s, %s): %s", c.a, c.b, got)
		}
		if q, r, is := nat.Div(c.a, c.b); q != c.quotient || r != c.rest || !is {
			t.Errorf("Div(%s, %s): %s, %s, %t", c.a, c.b, q, r, is)
		}
		if got := nat.Gcd(c.a, c.b); got != c.divisor {
			t.Errorf("Gcd(%s, %s): %s", c.a, c.b, got)
		}
		if got, is := nat.Sub(c.sum, c.b); got != c.a || !is {
			t.Errorf("Sub(%s, %s): %s, %t", c.sum, c.b, got, is)
		}
	}
}

// P1.2
func TestZeroAndBelow(t *testing.T) {
	for _, s := range awkward() {
		if q, r, is := nat.Div(s, "0"); q != "" || r != "" || is {
			t.Errorf("Div(%s, 0): %q, %q, %t", s, q, r, is)
		}
		if a, b := nat.Gcd(s, "0"), nat.Gcd("0", s); a != s || b != s {
			t.Errorf("Gcd of 0 and %s: %s, %s", s, a, b)
		}
		if got, is := nat.Sub(s, s); got != "0" || !is {
			t.Errorf("Sub(%s, %s): %q, %t", s, s, got, is)
		}
		if got, is := nat.Sub(s, nat.Add(s, "1")); got != "" || is {
			t.Errorf("Sub(%s, one more): %q, %t", s, got, is)
		}
	}
}

// P1.1 to P1.3
func TestAwkwardPairs(t *testing.T) {
	for _, a := range awkward() {
		for _, b := range awkward() {
			checkPair(t, a, b)
		}
	}
}

// P1.1 to P1.3
func TestManyPairs(t *testing.T) {
	r := rand.New(rand.NewSource(1))
	for range 20000 {
		a, b := digitsOf(r, 1+r.Intn(90)), digitsOf(r, 1+r.Intn(60))
		checkPair(t, a, b)
		both := digitsOf(r, 1+r.Intn(30))
		checkPair(t, nat.Mul(a, both), nat.Mul(b, both))
		product := nat.Mul(a, b)
		below, _ := nat.Sub(product, "1")
		checkPair(t, product, b)
		checkPair(t, below, b)
	}
}

// P1.2: of neighbours in this row Euclid's way is the longest one.
func TestDivisorOfNeighbours(t *testing.T) {
	a, b := "0", "1"
	for range 1000 {
		a, b = b, nat.Add(a, b)
		if got := nat.Gcd(b, a); got != "1" {
			t.Fatalf("Gcd(%s, %s): %s", b, a, got)
		}
		if got := nat.Gcd(nat.Mul(a, "1000000007"), nat.Mul(b, "1000000007")); got != "1000000007" {
			t.Fatalf("Gcd of %s and %s, times 1000000007: %s", a, b, got)
		}
	}
}

// checkLaws holds what follows from sums, products and quotients.
func checkLaws(t *testing.T, a, b, c string) {
	t.Helper()
	if nat.Add(a, b) != nat.Add(b, a) || nat.Add(nat.Add(a, b), c) != nat.Add(a, nat.Add(b, c)) || nat.Add(a, "0") != a {
		t.Errorf("sums of %s, %s, %s", a, b, c)
	}
	if nat.Mul(a, b) != nat.Mul(b, a) || nat.Mul(nat.Mul(a, b), c) != nat.Mul(a, nat.Mul(b, c)) || nat.Mul(a, "1") != a || nat.Mul(a, "0") != "0" {
		t.Errorf("products of %s, %s, %s", a, b, c)
	}
	if nat.Mul(a, nat.Add(b, c)) != nat.Add(nat.Mul(a, b), nat.Mul(a, c)) {
		t.Errorf("product of %s and a sum of %s, %s", a, b, c)
	}
	if less, is := nat.Sub(nat.Add(a, b), b); less != a || !is {
		t.Errorf("sum of %s, %s, less the latter", a, b)
	}
	if b == "0" {
		return
	}
	quotient, rest, is := nat.Div(a, b)
	if !is || nat.Cmp(rest, b) >= 0 || nat.Add(nat.Mul(quotient, b), rest) != a {
		t.Errorf("quotient of %s, %s", a, b)
	}
	divisor := nat.Gcd(a, b)
	partA, restA, _ := nat.Div(a, divisor)
	partB, restB, _ := nat.Div(b, divisor)
	if restA != "0" || restB != "0" || nat.Gcd(partA, partB) != "1" || divisor != nat.Gcd(b, rest) {
		t.Errorf("divisor of %s, %s", a, b)
	}
}

// P1.3
func TestLaws(t *testing.T) {
	all := awkward()
	for i, a := range all {
		for j, b := range all {
			checkLaws(t, a, b, all[(i*7+j*3)%len(all)])
		}
	}
	r := rand.New(rand.NewSource(2))
	for range 300 {
		checkLaws(t, digitsOf(r, 1+r.Intn(1500)), digitsOf(r, 1+r.Intn(1500)), digitsOf(r, 1+r.Intn(1500)))
	}
	checkLaws(t, digitsOf(r, 30000), digitsOf(r, 14000), digitsOf(r, 20000))
}

// R1 and P1: long arguments too come to an end.
func TestLongOnes(t *testing.T) {
	r := rand.New(rand.NewSource(3))
	checkPair(t, digitsOf(r, 20000), digitsOf(r, 10001))
	million := strings.Repeat("9", 1000000)
	if got := nat.Add(million, "1"); got != "1"+strings.Repeat("0", 1000000) {
		t.Error("a million digits and 1")
	}
	if q, rest, is := nat.Div(million, "9"); q != strings.Repeat("1", 1000000) || rest != "0" || !is {
		t.Error("a million digits by 9")
	}
	if _, is := nat.Small(million); is || nat.Cmp(million, "1"+million) != -1 {
		t.Error("a million digits compared")
	}
}

// R3: what was reckoned before is not kept.
func TestAnswersAgain(t *testing.T) {
	for range 3 {
		for i, a := range awkward() {
			checkPair(t, a, awkward()[i/2])
			checkPair(t, awkward()[i/2], a)
		}
	}
}
