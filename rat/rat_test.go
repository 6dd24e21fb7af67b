package rat_test

import (
	"math/big"
	"math/rand"
	"strings"
	"testing"

	"debenture/api"
	"debenture/rat"
)

const (
	most  = 1<<63 - 1
	least = -1 << 63
)

// notWholes answers texts that are no whole numbers.
func notWholes() []string {
	return []string{
		"", "-", "-0", "--1", "-01", "+1", "+0", "1-", " 1", "1 ", "1\n", "00", "01", "007", "a", "1a", "0x1", "1.0", "1.5", "1e3", "1/1", "1/2", "1_0", "\x00", "1\x00",
		"\xff", "\u22121", "\u0661", "/", ":", "-/", "-:",
		"-0" + strings.Repeat("1", 3000), strings.Repeat("9", 3000) + "x", strings.Repeat("-", 3000), strings.Repeat("0", 3000),
	}
}

// notRats answers Rats that may not be.
func notRats() []api.Rat {
	out := []api.Rat{
		// The edges: 0 in another form than 0 over 1, a den of 0 or below 0, a common divisor.
		{}, {Num: "1"}, {Den: "1"}, {Num: "0"}, {Den: "0"},
		{Num: "0", Den: "0"}, {Num: "1", Den: "0"}, {Num: "-1", Den: "0"}, {Num: "7", Den: "0"},
		{Num: "0", Den: "2"}, {Num: "0", Den: "-1"}, {Num: "-0", Den: "1"}, {Num: "0", Den: "100000000000000000000"},
		{Num: "1", Den: "-1"}, {Num: "1", Den: "-2"}, {Num: "-1", Den: "-2"},
		{Num: "2", Den: "2"}, {Num: "2", Den: "4"}, {Num: "-2", Den: "4"}, {Num: "4", Den: "2"}, {Num: "-6", Den: "9"}, {Num: "35", Den: "14"},
		{Num: "100000000000000000000", Den: "10"}, {Num: "-3", Den: "300000000000000000000000000000"},
		{Num: "9223372036854775807", Den: "9223372036854775807"}, {Num: "-9223372036854775808", Den: "2"},
		{Num: strings.Repeat("3", 3000), Den: strings.Repeat("7", 3000)},
	}
	for _, wrong := range notWholes() {
		out = append(out, api.Rat{Num: wrong, Den: "1"}, api.Rat{Num: "1", Den: wrong}, api.Rat{Num: wrong, Den: wrong})
	}
	return out
}

// edges answers Rats that may be, of both signs, at the edges of machine words and of groups of digits.
func edges() []api.Rat {
	out := []api.Rat{{Num: "0", Den: "1"}}
	for _, c := range [][2]string{
		{"1", "1"}, {"2", "1"}, {"10", "1"}, {"1", "2"}, {"1", "3"}, {"2", "3"}, {"3", "2"}, {"5", "6"}, {"7", "2"}, {"7", "12"}, {"1", "100"}, {"199", "100"},
		{"999999999", "1"}, {"1", "1000000000"}, {"999999999", "1000000000"}, {"1000000001", "1000000000"},
		{"9223372036854775807", "1"}, {"9223372036854775808", "1"}, {"1", "9223372036854775807"}, {"1", "9223372036854775808"},
		{"9223372036854775807", "9223372036854775808"}, {"9223372036854775808", "9223372036854775807"}, {"18446744073709551617", "2"},
		{"99999999999999999999", "100000000000000000000"}, {"100000000000000000001", "100000000000000000000"},
		{"1" + strings.Repeat("0", 60), "3"}, {"1", "1" + strings.Repeat("0", 60)}, {strings.Repeat("9", 60), "1" + strings.Repeat("0", 60)},
	} {
		out = append(out, api.Rat{Num: c[0], Den: c[1]}, api.Rat{Num: "-" + c[0], Den: c[1]})
	}
	return out
}

// of answers the Rat of the library's number.
func of(x *big.Rat) api.Rat {
	return api.Rat{Num: x.Num().String(), Den: x.Denom().String()}
}

// number answers the library's number of a Rat, which has to stand in its one form.
func number(t *testing.T, x api.Rat) *big.Rat {
	t.Helper()
	n, is := new(big.Rat).SetString(x.Num + "/" + x.Den)
	if !is || of(n) != x {
		t.Fatalf("%v is no Rat that may be", x)
	}
	return n
}

// random answers a Rat whose parts have so many digits at most.
func random(r *rand.Rand, length int) api.Rat {
	return of(new(big.Rat).SetFrac(randomWhole(r, length), new(big.Int).Add(new(big.Int).Abs(randomWhole(r, length)), big.NewInt(1))))
}

func randomWhole(r *rand.Rand, length int) *big.Int {
	out := make([]byte, 1+r.Intn(length))
	for i := range out {
		out[i] = byte('0' + r.Intn(10))
	}
	n, _ := new(big.Int).SetString(string(out), 10)
	if r.Intn(2) == 0 {
		n.Neg(n)
	}
	return n
}

// checkOne holds every call of one Rat against numbers of the library.
func checkOne(t *testing.T, x api.Rat) {
	t.Helper()
	n := number(t, x)
	if !rat.May(x) || rat.Sign(x) != n.Sign() || rat.Neg(x) != of(new(big.Rat).Neg(n)) {
		t.Fatalf("May, Sign, Neg of %v: %t, %d, %v", x, rat.May(x), rat.Sign(x), rat.Neg(x))
	}
	below, rest := new(big.Int).DivMod(n.Num(), n.Denom(), new(big.Int))
	wantRest := of(new(big.Rat).SetFrac(rest, n.Denom()))
	if got, gotRest := rat.Split(x); got != below.String() || gotRest != wantRest {
		t.Fatalf("Split(%v): %q, %v, not %s, %v", x, got, gotRest, below, wantRest)
	}
}

// checkPair holds every call of two Rats against numbers of the library.
func checkPair(t *testing.T, x, y api.Rat) {
	t.Helper()
	m, n := number(t, x), number(t, y)
	if got := rat.Cmp(x, y); got != m.Cmp(n) {
		t.Fatalf("Cmp(%v, %v): %d", x, y, got)
	}
	for name, c := range map[string]struct {
		got  api.Rat
		want *big.Rat
	}{
		"Add": {rat.Add(x, y), new(big.Rat).Add(m, n)},
		"Sub": {rat.Sub(x, y), new(big.Rat).Sub(m, n)},
		"Mul": {rat.Mul(x, y), new(big.Rat).Mul(m, n)},
	} {
		if c.got != of(c.want) {
			t.Fatalf("%s(%v, %v): %v, not %v", name, x, y, c.got, c.want)
		}
	}
	want, wantIs := api.Rat{}, n.Sign() != 0
	if wantIs {
		want = of(new(big.Rat).Quo(m, n))
	}
	if got, is := rat.Div(x, y); got != want || is != wantIs {
		t.Fatalf("Div(%v, %v): %v, %t, not %v", x, y, got, is, want)
	}
}

// P3.1
func TestMay(t *testing.T) {
	for _, x := range edges() {
		if !rat.May(x) {
			t.Errorf("May(%v): false", x)
		}
	}
	for _, x := range notRats() {
		if rat.May(x) {
			t.Errorf("May(%q over %q): true", x.Num, x.Den)
		}
	}
}

// P3.1: of all small parts, there is just one form of each number.
func TestMayOfSmallParts(t *testing.T) {
	for num := -30; num <= 30; num++ {
		for den := -30; den <= 30; den++ {
			x := api.Rat{Num: big.NewInt(int64(num)).String(), Den: big.NewInt(int64(den)).String()}
			want := den > 0 && of(big.NewRat(int64(num), int64(max(den, 1)))) == x
			if got := rat.May(x); got != want {
				t.Errorf("May(%v): %t", x, got)
			}
		}
	}
}

// P3.1
func TestMake(t *testing.T) {
	long := strings.Repeat("1", 3000)
	for _, c := range []struct {
		num, den string
		want     api.Rat
	}{
		{"0", "1", api.Rat{Num: "0", Den: "1"}}, {"0", "7", api.Rat{Num: "0", Den: "1"}}, {"0", "-7", api.Rat{Num: "0", Den: "1"}},
		{"1", "2", api.Rat{Num: "1", Den: "2"}}, {"-1", "2", api.Rat{Num: "-1", Den: "2"}}, {"1", "-2", api.Rat{Num: "-1", Den: "2"}}, {"-1", "-2", api.Rat{Num: "1", Den: "2"}},
		{"6", "4", api.Rat{Num: "3", Den: "2"}}, {"6", "-4", api.Rat{Num: "-3", Den: "2"}}, {"-6", "-3", api.Rat{Num: "2", Den: "1"}}, {"5", "5", api.Rat{Num: "1", Den: "1"}}, {"5", "-1", api.Rat{Num: "-5", Den: "1"}},
		{"-9223372036854775808", "-9223372036854775808", api.Rat{Num: "1", Den: "1"}},
		{"9223372036854775807", "-9223372036854775808", api.Rat{Num: "-9223372036854775807", Den: "9223372036854775808"}},
		{"-" + long + "0", long + "00", api.Rat{Num: "-1", Den: "10"}},
	} {
		if got, is := rat.Make(c.num, c.den); got != c.want || !is {
			t.Errorf("Make(%s, %s): %v, %t", c.num, c.den, got, is)
		}
	}
	for num := int64(-24); num <= 24; num++ {
		for den := int64(-24); den <= 24; den++ {
			if den == 0 {
				continue
			}
			if got, is := rat.Make(big.NewInt(num).String(), big.NewInt(den).String()); got != of(big.NewRat(num, den)) || !is {
				t.Errorf("Make(%d, %d): %v, %t", num, den, got, is)
			}
		}
	}
}

// P3.1
func TestMakeOfNoFraction(t *testing.T) {
	for _, num := range []string{"0", "1", "-1", "9223372036854775808", "-" + strings.Repeat("9", 3000)} {
		if got, is := rat.Make(num, "0"); got != (api.Rat{}) || is {
			t.Errorf("Make(%s, 0): %v, %t", num, got, is)
		}
	}
	for _, wrong := range notWholes() {
		for _, other := range []string{"0", "1", "-1", "6", "-12345678901234567890", "x", "-0", wrong} {
			for _, pair := range [][2]string{{wrong, other}, {other, wrong}} {
				if got, is := rat.Make(pair[0], pair[1]); got != (api.Rat{}) || is {
					t.Errorf("Make(%q, %q): %v, %t", pair[0], pair[1], got, is)
				}
			}
		}
	}
}

// P3.1
func TestOf(t *testing.T) {
	for n, want := range map[int]string{
		0: "0", 1: "1", -1: "-1", 10: "10", -10: "-10", most: "9223372036854775807", least: "-9223372036854775808", least + 1: "-9223372036854775807",
	} {
		if got := rat.Of(n); got != (api.Rat{Num: want, Den: "1"}) || !rat.May(got) {
			t.Errorf("Of(%d): %v", n, got)
		}
	}
}

// P3.1
func TestSignAndNeg(t *testing.T) {
	for _, c := range []struct {
		x, neg api.Rat
		sign   int
	}{
		{api.Rat{Num: "0", Den: "1"}, api.Rat{Num: "0", Den: "1"}, 0},
		{api.Rat{Num: "1", Den: "3"}, api.Rat{Num: "-1", Den: "3"}, 1},
		{api.Rat{Num: "-1", Den: "3"}, api.Rat{Num: "1", Den: "3"}, -1},
		{rat.Of(least), api.Rat{Num: "9223372036854775808", Den: "1"}, -1},
		{rat.Of(most), rat.Of(-most), 1},
	} {
		if got, sign := rat.Neg(c.x), rat.Sign(c.x); got != c.neg || sign != c.sign {
			t.Errorf("%v: %v, %d", c.x, got, sign)
		}
	}
}

// P3.1
func TestCmp(t *testing.T) {
	row := []api.Rat{
		rat.Of(least), rat.Of(-2), {Num: "-3", Den: "2"}, rat.Of(-1), {Num: "-1", Den: "2"}, {Num: "-1", Den: "3"}, {Num: "-1", Den: "1000000000000000000000"},
		rat.Of(0), {Num: "1", Den: "1000000000000000000000"}, {Num: "1", Den: "3"}, {Num: "2", Den: "5"}, {Num: "1", Den: "2"}, {Num: "2", Den: "3"},
		{Num: "999999999999999999999", Den: "1000000000000000000000"}, rat.Of(1), {Num: "4", Den: "3"}, rat.Of(most), {Num: "18446744073709551615", Den: "2"}, {Num: "9223372036854775808", Den: "1"},
	}
	for i, x := range row {
		for j, y := range row {
			want := 0
			if i < j {
				want = -1
			}
			if i > j {
				want = 1
			}
			if got := rat.Cmp(x, y); got != want {
				t.Errorf("Cmp(%v, %v): %d", x, y, got)
			}
		}
	}
}

// P3.1
func TestReckoning(t *testing.T) {
	n := func(num, den int64) api.Rat { return of(big.NewRat(num, den)) }
	for _, c := range []struct{ x, y, sum, difference, product, quotient api.Rat }{
		{n(1, 2), n(1, 3), n(5, 6), n(1, 6), n(1, 6), n(3, 2)},
		{n(1, 6), n(1, 3), n(1, 2), n(-1, 6), n(1, 18), n(1, 2)},
		{n(-1, 2), n(1, 2), n(0, 1), n(-1, 1), n(-1, 4), n(-1, 1)},
		{n(2, 3), n(-3, 2), n(-5, 6), n(13, 6), n(-1, 1), n(-4, 9)},
		{n(-2, 3), n(-3, 2), n(-13, 6), n(5, 6), n(1, 1), n(4, 9)},
		{n(0, 1), n(-5, 7), n(-5, 7), n(5, 7), n(0, 1), n(0, 1)},
		{n(7, 1), n(2, 1), n(9, 1), n(5, 1), n(14, 1), n(7, 2)},
		{n(most, 1), n(1, 1), api.Rat{Num: "9223372036854775808", Den: "1"}, n(most-1, 1), n(most, 1), n(most, 1)},
		{n(least, 1), n(-1, 1), api.Rat{Num: "-9223372036854775809", Den: "1"}, n(least+1, 1), api.Rat{Num: "9223372036854775808", Den: "1"}, api.Rat{Num: "9223372036854775808", Den: "1"}},
	} {
		if got := rat.Add(c.x, c.y); got != c.sum {
			t.Errorf("Add(%v, %v): %v", c.x, c.y, got)
		}
		if got := rat.Sub(c.x, c.y); got != c.difference {
			t.Errorf("Sub(%v, %v): %v", c.x, c.y, got)
		}
		if got := rat.Mul(c.x, c.y); got != c.product {
			t.Errorf("Mul(%v, %v): %v", c.x, c.y, got)
		}
		if got, is := rat.Div(c.x, c.y); got != c.quotient || !is {
			t.Errorf("Div(%v, %v): %v, %t", c.x, c.y, got, is)
		}
	}
}

// P3.1
func TestDivisionByZero(t *testing.T) {
	for _, x := range edges() {
		if got, is := rat.Div(x, api.Rat{Num: "0", Den: "1"}); got != (api.Rat{}) || is {
			t.Errorf("Div(%v, 0): %v, %t", x, got, is)
		}
	}
}

// P3.2
func TestSplit(t *testing.T) {
	for _, c := range []struct {
		num, den, below, rest, over string
	}{
		{"7", "2", "3", "1", "2"}, {"-7", "2", "-4", "1", "2"}, {"1", "9", "0", "1", "9"}, {"-1", "9", "-1", "8", "9"}, {"-8", "9", "-1", "1", "9"},
		{"0", "1", "0", "0", "1"}, {"5", "1", "5", "0", "1"}, {"-5", "1", "-5", "0", "1"}, {"-9223372036854775808", "1", "-9223372036854775808", "0", "1"},
		{"-1", "100000000000000000000", "-1", "99999999999999999999", "100000000000000000000"},
		{"-100000000000000000000", "3", "-33333333333333333334", "2", "3"},
		{"9223372036854775809", "2", "4611686018427387904", "1", "2"},
	} {
		if below, rest := rat.Split(api.Rat{Num: c.num, Den: c.den}); below != c.below || rest != (api.Rat{Num: c.rest, Den: c.over}) {
			t.Errorf("Split(%s over %s): %q, %v", c.num, c.den, below, rest)
		}
	}
}

// P3.1 and P3.2
func TestRatsThatMayNotBe(t *testing.T) {
	for _, wrong := range notRats() {
		if rat.Sign(wrong) != 0 || rat.Neg(wrong) != (api.Rat{}) {
			t.Errorf("%q over %q: %d, %v", wrong.Num, wrong.Den, rat.Sign(wrong), rat.Neg(wrong))
		}
		if below, rest := rat.Split(wrong); below != "" || rest != (api.Rat{}) {
			t.Errorf("Split(%q over %q): %q, %v", wrong.Num, wrong.Den, below, rest)
		}
		for _, other := range []api.Rat{{Num: "0", Den: "1"}, {Num: "1", Den: "1"}, {Num: "-5", Den: "3"}, {Num: "12345678901234567890", Den: "7"}, {}, {Num: "4", Den: "2"}, wrong} {
			for _, pair := range [][2]api.Rat{{wrong, other}, {other, wrong}} {
				x, y := pair[0], pair[1]
				if got := rat.Cmp(x, y); got != 0 {
					t.Errorf("Cmp(%v, %v): %d", x, y, got)
				}
				if rat.Add(x, y) != (api.Rat{}) || rat.Sub(x, y) != (api.Rat{}) || rat.Mul(x, y) != (api.Rat{}) {
					t.Errorf("sum, difference, product of %v, %v", x, y)
				}
				if got, is := rat.Div(x, y); got != (api.Rat{}) || is {
					t.Errorf("Div(%v, %v): %v, %t", x, y, got, is)
				}
			}
		}
	}
}

// P3.1 to P3.3, and P2: all is exact.
func TestPairs(t *testing.T) {
	for _, x := range edges() {
		checkOne(t, x)
		for _, y := range edges() {
			checkPair(t, x, y)
		}
	}
	r := rand.New(rand.NewSource(1))
	for range 2000 {
		for _, length := range []int{1, 2, 25} {
			x, y := random(r, length), random(r, length)
			checkOne(t, x)
			checkPair(t, x, y)
		}
	}
}

// checkField holds the laws of sums, products and quotients.
func checkField(t *testing.T, x, y, z api.Rat) {
	t.Helper()
	zero, one := rat.Of(0), rat.Of(1)
	if rat.Add(x, y) != rat.Add(y, x) || rat.Add(rat.Add(x, y), z) != rat.Add(x, rat.Add(y, z)) || rat.Add(x, zero) != x || rat.Add(x, rat.Neg(x)) != zero {
		t.Errorf("sums of %v, %v, %v", x, y, z)
	}
	if rat.Mul(x, y) != rat.Mul(y, x) || rat.Mul(rat.Mul(x, y), z) != rat.Mul(x, rat.Mul(y, z)) || rat.Mul(x, one) != x || rat.Mul(x, zero) != zero {
		t.Errorf("products of %v, %v, %v", x, y, z)
	}
	if rat.Mul(x, rat.Add(y, z)) != rat.Add(rat.Mul(x, y), rat.Mul(x, z)) {
		t.Errorf("product of %v and a sum of %v, %v", x, y, z)
	}
	if rat.Sub(x, y) != rat.Add(x, rat.Neg(y)) || rat.Add(rat.Sub(x, y), y) != x || rat.Neg(rat.Neg(x)) != x {
		t.Errorf("difference of %v, %v", x, y)
	}
	quotient, is := rat.Div(x, y)
	if y == zero {
		if is {
			t.Errorf("quotient of %v, 0", x)
		}
		return
	}
	if back, _ := rat.Div(one, y); !is || rat.Mul(quotient, y) != x || rat.Mul(x, back) != quotient || rat.Mul(back, y) != one {
		t.Errorf("quotient of %v, %v", x, y)
	}
}

// checkOrder holds the laws of the order, and that what is the same has the same form.
func checkOrder(t *testing.T, x, y, z api.Rat) {
	t.Helper()
	order := rat.Cmp(x, y)
	if order != -rat.Cmp(y, x) || order != rat.Sign(rat.Sub(x, y)) || (order == 0) != (x == y) {
		t.Errorf("order of %v, %v", x, y)
	}
	if rat.Cmp(rat.Add(x, z), rat.Add(y, z)) != order || rat.Cmp(rat.Mul(x, z), rat.Mul(y, z)) != order*rat.Sign(z) {
		t.Errorf("order of %v, %v with %v", x, y, z)
	}
	if order <= 0 && rat.Cmp(y, z) <= 0 && rat.Cmp(x, z) > 0 {
		t.Errorf("order of %v, %v, %v", x, y, z)
	}
	if rat.Sign(rat.Mul(x, y)) != rat.Sign(x)*rat.Sign(y) {
		t.Errorf("signs of %v, %v", x, y)
	}
	below, rest := rat.Split(x)
	if part, is := rat.Make(below, "1"); !is || rat.Add(part, rest) != x || rat.Sign(rest) < 0 || rat.Cmp(rest, rat.Of(1)) >= 0 {
		t.Errorf("Split(%v): %s, %v", x, below, rest)
	}
	for _, made := range []api.Rat{rat.Add(x, y), rat.Sub(x, y), rat.Mul(x, y), rat.Neg(x), rest} {
		if again, is := rat.Make(made.Num, made.Den); !rat.May(made) || again != made || !is {
			t.Errorf("of %v, %v: %v", x, y, made)
		}
	}
}

// P3.3
func TestLaws(t *testing.T) {
	all := edges()
	for i, x := range all {
		for j, y := range all {
			z := all[(i*7+j*3)%len(all)]
			checkField(t, x, y, z)
			checkOrder(t, x, y, z)
		}
	}
	r := rand.New(rand.NewSource(2))
	for _, length := range []int{1, 2, 40, 200} {
		for range 100 {
			x, y, z := random(r, length), random(r, length), random(r, length)
			checkField(t, x, y, z)
			checkOrder(t, x, y, z)
		}
	}
}

// P3.3: whatever num and den a number is made of, it has one form.
func TestOneForm(t *testing.T) {
	for _, x := range edges() {
		n := number(t, x)
		for _, by := range []string{"1", "-1", "2", "-3", "1000000000", "-9223372036854775808", "1" + strings.Repeat("0", 60), "-" + strings.Repeat("7", 500)} {
			times, _ := new(big.Int).SetString(by, 10)
			num, den := new(big.Int).Mul(n.Num(), times), new(big.Int).Mul(n.Denom(), times)
			if got, is := rat.Make(num.String(), den.String()); got != x || !is {
				t.Errorf("Make(%s, %s): %v, %t, not %v", num, den, got, is, x)
			}
		}
	}
}

// R1 and P1: long arguments too come to an end, and are exact.
func TestLongOnes(t *testing.T) {
	r := rand.New(rand.NewSource(3))
	x, y := random(r, 6000), random(r, 6000)
	checkOne(t, x)
	checkPair(t, x, y)
	nines, round := strings.Repeat("9", 200000), "1"+strings.Repeat("0", 200000)
	if got := rat.Add(api.Rat{Num: nines, Den: "1"}, rat.Of(1)); got != (api.Rat{Num: round, Den: "1"}) {
		t.Error("many nines and 1")
	}
	if got, is := rat.Make("-"+nines, "-9"); got != (api.Rat{Num: strings.Repeat("1", 200000), Den: "1"}) || !is {
		t.Error("many nines by 9")
	}
	if below, rest := rat.Split(api.Rat{Num: "-" + round, Den: "3"}); below != "-"+strings.Repeat("3", 199999)+"4" || rest != (api.Rat{Num: "2", Den: "3"}) {
		t.Error("many zeros by 3")
	}
	if rat.Cmp(api.Rat{Num: "1", Den: round}, api.Rat{Num: "1", Den: nines}) != -1 || rat.Sign(api.Rat{Num: "-1", Den: round}) != -1 {
		t.Error("one over many digits")
	}
}

// R3: what was reckoned before is not kept.
func TestAnswersAgain(t *testing.T) {
	for range 3 {
		for i, x := range edges() {
			y := edges()[i/2]
			checkOne(t, x)
			checkPair(t, x, y)
			checkPair(t, y, x)
		}
	}
}
