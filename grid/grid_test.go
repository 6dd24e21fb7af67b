package grid_test

import (
	"math/big"
	"math/rand"
	"strings"
	"testing"

	"debenture/api"
	"debenture/grid"
)

const (
	most  = 1<<63 - 1
	least = -1 << 63
)

// modes are those that there are.
var modes = []int{api.Down, api.Trunc, api.Even}

// notModes are below 0, or above 2.
var notModes = []int{-1, 3, 4, -2, 5, 10, -3, 255, 256, 257, 258, 1 << 32, 1<<32 + 1, -1 << 32, most, most - 1, least, least + 1, least + 2}

// notRats answers Rats that may not be.
func notRats() []api.Rat {
	out := []api.Rat{
		{}, {Num: "1"}, {Den: "1"}, {Num: "0"}, {Den: "0"}, {Den: "2"},
		{Num: "0", Den: "0"}, {Num: "1", Den: "0"}, {Num: "-1", Den: "0"}, {Num: "0", Den: "2"}, {Num: "-0", Den: "1"}, {Num: "0", Den: "-1"},
		{Num: "1", Den: "-1"}, {Num: "-1", Den: "-2"}, {Num: "5", Den: "-2"}, {Num: "01", Den: "2"}, {Num: "1", Den: "02"}, {Num: "+5", Den: "2"}, {Num: "5", Den: "+2"},
		{Num: "2", Den: "2"}, {Num: "2", Den: "4"}, {Num: "-5", Den: "10"}, {Num: "10", Den: "4"}, {Num: "-14", Den: "4"}, {Num: "6", Den: "2"}, {Num: "100", Den: "100"},
		{Num: "100000000000000000000", Den: "10"}, {Num: strings.Repeat("3", 3000), Den: strings.Repeat("7", 3000)},
	}
	for _, wrong := range []string{"", "-", "-0", "--1", "-01", "+1", "1-", " 1", "1 ", "1\n", "01", "a", "1a", "1.0", "0.5", "1e3", "1/2", "\x00", "1\x00", "\xff", "\u0661", strings.Repeat("9", 3000) + "x"} {
		out = append(out, api.Rat{Num: wrong, Den: "1"}, api.Rat{Num: wrong, Den: "2"}, api.Rat{Num: "1", Den: wrong}, api.Rat{Num: "-5", Den: wrong}, api.Rat{Num: wrong, Den: wrong})
	}
	return out
}

// edges answers Rats of both signs: whole ones, halves above even and above odd numbers, and those next to these, at the edges of machine words and of groups of digits.
func edges() []api.Rat {
	out := []api.Rat{{Num: "0", Den: "1"}}
	for _, text := range []string{
		"1", "2", "3", "6", "7", "10", "1/2", "3/2", "5/2", "7/2", "9/2", "19/2", "21/2", "1/3", "2/3", "4/3", "5/3", "1/4", "3/4", "5/4", "7/4", "9/4", "11/4", "13/4", "49/100", "51/100", "149/100", "151/100", "1/100", "1/200", "3/200", "199/200",
		"999999999", "1999999999/2", "2000000001/2", "1999999997/2", "1/1000000000", "999999999/1000000000", "499999999/1000000000", "500000001/1000000000",
		"9223372036854775807", "9223372036854775808", "18446744073709551615/2", "18446744073709551617/2", "9223372036854775807/2", "9223372036854775809/2", "1/9223372036854775808",
		"99999999999999999999/100000000000000000000", "49999999999999999999/100000000000000000000", "50000000000000000001/100000000000000000000", "149999999999999999999/100000000000000000000", "150000000000000000001/100000000000000000000",
		"1" + strings.Repeat("0", 60) + "/3", strings.Repeat("9", 61) + "/2", strings.Repeat("7", 61) + "/2", "1" + strings.Repeat("0", 60) + "1/2", "1/1" + strings.Repeat("0", 60), strings.Repeat("9", 60),
	} {
		x := of(library(text))
		out = append(out, x, api.Rat{Num: "-" + x.Num, Den: x.Den})
	}
	return out
}

// grids answers Rats above 0.
func grids() []api.Rat {
	var out []api.Rat
	for _, text := range []string{
		"1", "2", "3", "4", "5", "10", "100", "1000000000", "9223372036854775808", "100000000000000000000",
		"1/2", "1/3", "1/4", "1/7", "1/10", "1/100", "1/1000000000", "1/100000000000000000000", "2/3", "3/2", "5/2", "7/12", "33/100", "99999999999999999999/7",
	} {
		out = append(out, of(library(text)))
	}
	return out
}

// library answers the library's number of a text.
func library(text string) *big.Rat {
	x, is := new(big.Rat).SetString(text)
	if !is {
		panic(text)
	}
	return x
}

// of answers the Rat of the library's number.
func of(x *big.Rat) api.Rat {
	return api.Rat{Num: x.Num().String(), Den: x.Denom().String()}
}

// number answers the library's number of a Rat, which has to stand in its one form.
func number(t *testing.T, x api.Rat) *big.Rat {
	t.Helper()
	n, is := new(big.Rat).SetString(x.Num + "/" + x.Den)
	if !is || of(n) != x {
		t.Fatalf("%v is no Rat that may be", x)
	}
	return n
}

// rounded answers by the library's means to what whole number x is rounded.
func rounded(x *big.Rat, mode int) *big.Int {
	switch mode {
	case api.Down:
		return new(big.Int).Div(x.Num(), x.Denom())
	case api.Trunc:
		return new(big.Int).Quo(x.Num(), x.Denom())
	}
	// What is not above x and a half is the nearest one, or of two as near the higher one.
	more := new(big.Rat).Add(x, big.NewRat(1, 2))
	out := new(big.Int).Div(more.Num(), more.Denom())
	if more.IsInt() && out.Bit(0) == 1 {
		out.Sub(out, big.NewInt(1))
	}
	return out
}

// checkWhole holds Whole against the library by every mode.
func checkWhole(t *testing.T, x api.Rat) {
	t.Helper()
	n := number(t, x)
	for _, mode := range modes {
		if got, want := grid.Whole(x, mode), rounded(n, mode).String(); got != want {
			t.Fatalf("Whole(%v, %d): %q, not %s", x, mode, got, want)
		}
	}
}

// checkRound holds Round against the library by every mode.
func checkRound(t *testing.T, x, g api.Rat) {
	t.Helper()
	m, n := number(t, x), number(t, g)
	for _, mode := range modes {
		want := new(big.Rat).SetInt(rounded(new(big.Rat).Quo(m, n), mode))
		want.Mul(want, n)
		if got := grid.Round(x, g, mode); got != of(want) {
			t.Fatalf("Round(%v, %v, %d): %v, not %v", x, g, mode, got, want)
		}
	}
}

// checkLies holds what is rounded against what it has to be, without reckoning it.
func checkLies(t *testing.T, x, g api.Rat) {
	t.Helper()
	m, n := number(t, x), number(t, g)
	for _, mode := range modes {
		got := grid.Round(x, g, mode)
		lies := number(t, got)
		times := new(big.Rat).Quo(lies, n)
		if !times.IsInt() {
			t.Fatalf("Round(%v, %v, %d): %v, not on the grid", x, g, mode, got)
		}
		if again := grid.Round(got, g, mode); again != got {
			t.Fatalf("Round(%v, %v, %d): %v, and again %v", x, g, mode, got, again)
		}
		above := new(big.Rat).Sub(m, lies)
		far := new(big.Rat).Abs(above)
		is := far.Cmp(n) < 0
		switch mode {
		case api.Down:
			is = is && above.Sign() >= 0
		case api.Trunc:
			is = is && above.Sign()*m.Sign() >= 0
		case api.Even:
			order := far.Add(far, far).Cmp(n)
			is = order < 0 || order == 0 && times.Num().Bit(0) == 0
		}
		if !is {
			t.Fatalf("Round(%v, %v, %d): %v, which lies wrong", x, g, mode, got)
		}
	}
}

// random answers a Rat of either sign whose parts have so many digits at most.
func random(r *rand.Rand, length int) api.Rat {
	digits := func() *big.Int {
		out := make([]byte, 1+r.Intn(length))
		for i := range out {
			out[i] = byte('0' + r.Intn(10))
		}
		n, _ := new(big.Int).SetString(string(out), 10)
		return n
	}
	num, den := digits(), digits()
	if r.Intn(2) == 0 {
		num.Neg(num)
	}
	return of(new(big.Rat).SetFrac(num, den.Add(den, big.NewInt(1))))
}

// randomGrid answers a Rat above 0.
func randomGrid(r *rand.Rand, length int) api.Rat {
	for {
		x := random(r, length)
		x.Num = strings.TrimPrefix(x.Num, "-")
		if x.Num != "0" {
			return x
		}
	}
}

// P5.1
func TestWhole(t *testing.T) {
	for _, c := range []struct{ num, den, down, trunc, even string }{
		{"0", "1", "0", "0", "0"}, {"1", "1", "1", "1", "1"}, {"-1", "1", "-1", "-1", "-1"}, {"6", "1", "6", "6", "6"}, {"-7", "1", "-7", "-7", "-7"}, {"10", "1", "10", "10", "10"}, {"-10", "1", "-10", "-10", "-10"},
		{"1", "2", "0", "0", "0"}, {"3", "2", "1", "1", "2"}, {"5", "2", "2", "2", "2"}, {"7", "2", "3", "3", "4"}, {"19", "2", "9", "9", "10"}, {"21", "2", "10", "10", "10"}, {"199", "2", "99", "99", "100"}, {"201", "2", "100", "100", "100"},
		{"-1", "2", "-1", "0", "0"}, {"-3", "2", "-2", "-1", "-2"}, {"-5", "2", "-3", "-2", "-2"}, {"-7", "2", "-4", "-3", "-4"}, {"-19", "2", "-10", "-9", "-10"}, {"-21", "2", "-11", "-10", "-10"}, {"-199", "2", "-100", "-99", "-100"}, {"-201", "2", "-101", "-100", "-100"},
		{"1", "3", "0", "0", "0"}, {"2", "3", "0", "0", "1"}, {"-1", "3", "-1", "0", "0"}, {"-2", "3", "-1", "0", "-1"}, {"4", "3", "1", "1", "1"}, {"5", "3", "1", "1", "2"}, {"-4", "3", "-2", "-1", "-1"}, {"-5", "3", "-2", "-1", "-2"},
		{"49", "100", "0", "0", "0"}, {"51", "100", "0", "0", "1"}, {"-49", "100", "-1", "0", "0"}, {"-51", "100", "-1", "0", "-1"}, {"-1", "1000000000", "-1", "0", "0"}, {"-999999999", "1000000000", "-1", "0", "-1"},
		{"9223372036854775807", "1", "9223372036854775807", "9223372036854775807", "9223372036854775807"}, {"-9223372036854775808", "1", "-9223372036854775808", "-9223372036854775808", "-9223372036854775808"},
		{"18446744073709551615", "2", "9223372036854775807", "9223372036854775807", "9223372036854775808"}, {"-18446744073709551617", "2", "-9223372036854775809", "-9223372036854775808", "-9223372036854775808"},
		{"199999999999999999999", "100000000000000000000", "1", "1", "2"}, {"150000000000000000001", "100000000000000000000", "1", "1", "2"}, {"249999999999999999999", "100000000000000000000", "2", "2", "2"}, {"250000000000000000001", "100000000000000000000", "2", "2", "3"}, {"-249999999999999999999", "100000000000000000000", "-3", "-2", "-2"}, {"-250000000000000000001", "100000000000000000000", "-3", "-2", "-3"},
	} {
		x := api.Rat{Num: c.num, Den: c.den}
		if down, trunc, even := grid.Whole(x, api.Down), grid.Whole(x, api.Trunc), grid.Whole(x, api.Even); down != c.down || trunc != c.trunc || even != c.even {
			t.Errorf("Whole of %v: %q, %q, %q", x, down, trunc, even)
		}
	}
}

// P5.1: the modes are those numbers.
func TestModesByNumber(t *testing.T) {
	x := api.Rat{Num: "-11", Den: "4"}
	for mode, want := range []string{"-3", "-2", "-3"} {
		if got := grid.Whole(x, mode); got != want {
			t.Errorf("Whole(%v, %d): %q", x, mode, got)
		}
	}
}

// P5.1, against the library.
func TestWholeOfMany(t *testing.T) {
	for _, x := range edges() {
		checkWhole(t, x)
	}
	for num := int64(-120); num <= 120; num++ {
		for den := int64(1); den <= 30; den++ {
			checkWhole(t, of(big.NewRat(num, den)))
		}
	}
	r := rand.New(rand.NewSource(1))
	for range 2000 {
		x := random(r, 40)
		checkWhole(t, x)
		half := number(t, x)
		half.Add(new(big.Rat).SetInt(rounded(half, api.Down)), big.NewRat(1, 2))
		checkWhole(t, of(half))
	}
}

// P5.1
func TestWholeOfWrongOnes(t *testing.T) {
	for _, x := range notRats() {
		for _, mode := range append(notModes, modes...) {
			if got := grid.Whole(x, mode); got != "" {
				t.Errorf("Whole(%q over %q, %d): %q", x.Num, x.Den, mode, got)
			}
		}
	}
	for _, x := range edges() {
		for _, mode := range notModes {
			if got := grid.Whole(x, mode); got != "" {
				t.Errorf("Whole(%v, %d): %q", x, mode, got)
			}
		}
	}
}

// P5.2
func TestRound(t *testing.T) {
	for _, c := range []struct{ x, g, down, trunc, even string }{
		{"0", "1", "0", "0", "0"}, {"0", "1/3", "0", "0", "0"}, {"0", "1000", "0", "0", "0"},
		{"7/2", "1", "3", "3", "4"}, {"-5/2", "1", "-3", "-2", "-2"},
		{"-7", "3", "-9", "-6", "-6"}, {"8", "3", "6", "6", "9"}, {"-8", "3", "-9", "-6", "-9"}, {"6", "3", "6", "6", "6"}, {"-9", "3", "-9", "-9", "-9"}, {"1", "3", "0", "0", "0"}, {"-1", "3", "-3", "0", "0"}, {"-2", "3", "-3", "0", "-3"},
		{"5", "10", "0", "0", "0"}, {"15", "10", "10", "10", "20"}, {"25", "10", "20", "20", "20"}, {"-5", "10", "-10", "0", "0"}, {"-15", "10", "-20", "-10", "-20"}, {"-25", "10", "-30", "-20", "-20"}, {"1234", "100", "1200", "1200", "1200"}, {"1250", "100", "1200", "1200", "1200"}, {"1350", "100", "1300", "1300", "1400"}, {"99", "1000", "0", "0", "0"}, {"-99", "1000", "-1000", "0", "0"},
		{"17/10", "1/2", "3/2", "3/2", "3/2"}, {"7/4", "1/2", "3/2", "3/2", "2"}, {"5/4", "1/2", "1", "1", "1"}, {"-5/4", "1/2", "-3/2", "-1", "-1"}, {"-7/4", "1/2", "-2", "-3/2", "-2"}, {"-1/4", "1/2", "-1/2", "0", "0"}, {"-3/8", "1/2", "-1/2", "0", "-1/2"}, {"3", "1/2", "3", "3", "3"}, {"-7/2", "1/2", "-7/2", "-7/2", "-7/2"},
		{"1", "2/3", "2/3", "2/3", "4/3"}, {"1/3", "2/3", "0", "0", "0"}, {"-1", "2/3", "-4/3", "-2/3", "-4/3"}, {"4/3", "2/3", "4/3", "4/3", "4/3"}, {"1", "3/2", "0", "0", "3/2"}, {"-1", "3/2", "-3/2", "0", "-3/2"}, {"3/4", "3/2", "0", "0", "0"}, {"9/4", "3/2", "3/2", "3/2", "3"}, {"1/2", "1/7", "3/7", "3/7", "4/7"},
		{"10000000000000000000000001/2", "100000000000000000000", "5000000000000000000000000", "5000000000000000000000000", "5000000000000000000000000"},
		{"-10000000000000000000000001/2", "100000000000000000000", "-5000100000000000000000000", "-5000000000000000000000000", "-5000000000000000000000000"},
	} {
		x, g := of(library(c.x)), of(library(c.g))
		for mode, want := range []string{c.down, c.trunc, c.even} {
			if got := grid.Round(x, g, mode); got != of(library(want)) {
				t.Errorf("Round(%s, %s, %d): %v, not %s", c.x, c.g, mode, got, want)
			}
		}
	}
}

// P5.2
func TestCents(t *testing.T) {
	for x, want := range map[string]string{
		"0": "0", "5": "5", "-5": "-5", "1/100": "1/100", "-1/100": "-1/100", "1999/100": "1999/100", "1/10": "1/10",
		"1/3": "33/100", "2/3": "67/100", "-1/3": "-33/100", "-2/3": "-67/100", "22/7": "314/100", "-22/7": "-314/100",
		"1/200": "0", "3/200": "2/100", "5/200": "2/100", "7/200": "4/100", "-1/200": "0", "-3/200": "-2/100", "-5/200": "-2/100", "-7/200": "-4/100", "199/200": "1", "201/200": "1", "-199/200": "-1", "-201/200": "-1",
		"51/10000": "1/100", "49/10000": "0", "-51/10000": "-1/100", "-49/10000": "0", "1/1000000000000000000000": "0", "-1/1000000000000000000000": "0",
		"2469135802469135802469/200": "1234567901234567901234/100", "2469135802469135802471/200": "1234567901234567901236/100", "9223372036854775808": "9223372036854775808",
	} {
		if got := grid.Cents(of(library(x))); got != of(library(want)) {
			t.Errorf("Cents(%s): %v, not %s", x, got, want)
		}
	}
	hundredth := api.Rat{Num: "1", Den: "100"}
	for _, x := range edges() {
		if got, want := grid.Cents(x), grid.Round(x, hundredth, api.Even); got != want {
			t.Errorf("Cents(%v): %v, not %v", x, got, want)
		}
	}
	for _, x := range notRats() {
		if got := grid.Cents(x); got != (api.Rat{}) {
			t.Errorf("Cents(%q over %q): %v", x.Num, x.Den, got)
		}
	}
}

// P5.2, against the library, and P5.3.
func TestRoundOfMany(t *testing.T) {
	for _, x := range edges() {
		for _, g := range grids() {
			checkRound(t, x, g)
			checkLies(t, x, g)
		}
	}
	for num := int64(-40); num <= 40; num++ {
		for den := int64(1); den <= 12; den++ {
			for _, g := range []*big.Rat{big.NewRat(1, 1), big.NewRat(2, 1), big.NewRat(3, 1), big.NewRat(1, 2), big.NewRat(1, 6), big.NewRat(2, 3), big.NewRat(5, 4), big.NewRat(1, 100)} {
				checkRound(t, of(big.NewRat(num, den)), of(g))
				checkLies(t, of(big.NewRat(num, den)), of(g))
			}
		}
	}
	r := rand.New(rand.NewSource(2))
	for _, length := range []int{1, 3, 40, 150} {
		for range 200 {
			x, g := random(r, length), randomGrid(r, length)
			checkRound(t, x, g)
			checkLies(t, x, g)
		}
	}
}

// P5.1 to P5.3: what lies on the grid already stays, and what lies in the middle goes to the even one.
func TestRoundOfPlacesOnTheGrid(t *testing.T) {
	for _, g := range grids() {
		n := number(t, g)
		for times := int64(-11); times <= 11; times++ {
			x := of(new(big.Rat).Mul(n, big.NewRat(times, 1)))
			next := of(new(big.Rat).Mul(n, big.NewRat(times+1, 1)))
			middle := of(new(big.Rat).Mul(n, big.NewRat(2*times+1, 2)))
			trunc, even := x, x
			if times < 0 {
				trunc = next
			}
			if times%2 != 0 {
				even = next
			}
			for mode, want := range []api.Rat{x, trunc, even} {
				if got := grid.Round(x, g, mode); got != x {
					t.Errorf("Round(%v, %v, %d): %v", x, g, mode, got)
				}
				if got := grid.Round(middle, g, mode); got != want {
					t.Errorf("Round(%v, %v, %d): %v, not %v", middle, g, mode, got, want)
				}
			}
		}
	}
}

// P5.2
func TestRoundOfWrongOnes(t *testing.T) {
	right := []api.Rat{{Num: "0", Den: "1"}, {Num: "1", Den: "1"}, {Num: "-5", Den: "2"}, {Num: "12345678901234567890", Den: "7"}}
	notGrids := append(notRats(), api.Rat{Num: "0", Den: "1"})
	for _, g := range grids() {
		notGrids = append(notGrids, api.Rat{Num: "-" + g.Num, Den: g.Den})
	}
	zero := func(x, g api.Rat, mode int) {
		if got := grid.Round(x, g, mode); got != (api.Rat{}) {
			t.Errorf("Round(%q over %q, %q over %q, %d): %v", x.Num, x.Den, g.Num, g.Den, mode, got)
		}
	}
	for _, mode := range append(notModes, modes...) {
		for _, g := range notGrids {
			for _, x := range append(right, g, api.Rat{}) {
				zero(x, g, mode)
			}
		}
		for _, x := range notRats() {
			for _, g := range append(right, x) {
				zero(x, g, mode)
			}
		}
	}
	for _, mode := range notModes {
		for _, x := range right {
			for _, g := range grids() {
				zero(x, g, mode)
			}
		}
	}
}

// R1, P1 and P2: long arguments too come to an end, and are exact.
func TestLongOnes(t *testing.T) {
	many := 100000
	nines, round := strings.Repeat("9", many), "1"+strings.Repeat("0", many)
	half := api.Rat{Num: "-" + nines, Den: "2"}
	below, above := "-5"+strings.Repeat("0", many-1), "-4"+strings.Repeat("9", many-1)
	if grid.Whole(half, api.Down) != below || grid.Whole(half, api.Trunc) != above || grid.Whole(half, api.Even) != below {
		t.Error("half of many nines")
	}
	small := api.Rat{Num: "-1", Den: round}
	if grid.Whole(small, api.Down) != "-1" || grid.Whole(small, api.Trunc) != "0" || grid.Whole(small, api.Even) != "0" {
		t.Error("one over many digits")
	}
	if got := grid.Cents(api.Rat{Num: round, Den: "3"}); got != (api.Rat{Num: strings.Repeat("3", many+2), Den: "100"}) {
		t.Error("cents of many digits")
	}
	if got := grid.Round(api.Rat{Num: nines, Den: "1"}, api.Rat{Num: round, Den: "1"}, api.Even); got != (api.Rat{Num: round, Den: "1"}) {
		t.Error("many nines on a great grid")
	}
	r := rand.New(rand.NewSource(3))
	for range 3 {
		x, g := random(r, 3000), randomGrid(r, 3000)
		checkWhole(t, x)
		checkRound(t, x, g)
		checkLies(t, x, g)
	}
}

// R3: what was rounded before is not kept.
func TestAnswersAgain(t *testing.T) {
	for range 3 {
		for i, x := range edges() {
			g := grids()[i%len(grids())]
			checkWhole(t, x)
			checkRound(t, x, g)
			if grid.Whole(x, 3) != "" || grid.Whole(api.Rat{}, api.Even) != "" || grid.Round(x, api.Rat{}, api.Even) != (api.Rat{}) {
				t.Errorf("beside %v", x)
			}
		}
	}
}
