package deal_test

import (
	"math/big"
	"math/rand"
	"slices"
	"strconv"
	"strings"
	"testing"

	"debenture/api"
	"debenture/deal"
	"debenture/term"
)

// reckons wants of d and l what a second reading tells, be d chosen or not, and answers what it tells where it is.
func reckons(t *testing.T, d api.Deal, l []api.Fix) (api.Rat, api.Errno) {
	t.Helper()
	for _, is := range []bool{false, true} {
		want, wantErr := amount(d, l, is)
		if got, err := told(t, d, l, is); got != want || err != wantErr {
			t.Fatalf("%.300s by %.300v comes to %.200v, %d, not %.200v, %d (chosen: %t)", printed(d), l, got, err, want, wantErr, is)
		}
	}
	return amount(d, l, true)
}

// P14.2: the document's example, and each op, by Mults that are whole, with places, below 0, and with none of these.
func TestAmount(t *testing.T) {
	for _, c := range []struct{ m, pay, want string }{
		{"100", "max(px(x, 9) - 50, 0)", "1000"}, {"100", "max(px(x, 8) - 50, 0)", "0"}, {"100", "px(x, 8) - 50", "-4650"},
		{"1", "7", "7"}, {"1", "0", "0"}, {"-1", "0", "0"}, {"-1", "7", "-7"}, {"-1", "-7", "7"}, {"0.5", "7", "3.5"}, {"-0.5", "7", "-3.5"}, {"2", "0.25", "0.5"}, {"1/3", "7", "2.33"}, {"-1/3", "7", "-2.33"}, {"2/3", "1", "0.67"}, {"-2/3", "1", "-0.67"}, {"22/7", "1", "3.14"}, {"1/7", "7", "1"}, {"1/1000", "1", "0"}, {"-1/1000", "1", "0"},
		{"3", "px(x, 0)", "15"}, {"3", "px(y, 1)", "-1.5"}, {"3", "px(y, 5)", "1"}, {"100", "px(y, 3)", "0.1"}, {"1", "px(y, 3)", "0"}, {"1", "px(z, 9999)", "47"},
		{"10", "avg(x, 1, 3)", "30"}, {"1/10", "avg(x, 5, 8)", "0.76"}, {"10", "hi(x, 1, 3)", "60"}, {"10", "lo(x, 1, 3)", "10"}, {"-10", "hi(y, 1, 4)", "-0.01"}, {"-10", "lo(y, 1, 4)", "5"},
		{"2", "-px(x, 1)", "-2"}, {"2", "px(x, 1) + px(x, 3)", "14"}, {"2", "px(x, 1) - px(x, 3)", "-10"}, {"2", "px(x, 2) * px(x, 3)", "24"}, {"2", "px(x, 1) / px(x, 3)", "0.33"}, {"2", "max(px(x, 1), px(x, 3))", "12"}, {"2", "min(px(x, 1), px(x, 3))", "2"},
		{"2", "if(px(x, 1), px(x, 2), px(x, 3))", "4"}, {"2", "if(px(y, 2), px(x, 2), px(x, 3))", "12"}, {"2", "if(px(y, 1), px(x, 2), px(x, 3))", "12"}, {"-1", "if(1, -1, 2)", "1"},
		{"1", "1 / 3", "0.33"}, {"3", "1 / 3", "1"}, {"300", "1 / 3", "100"}, {"1", "2 / 3", "0.67"}, {"1", "-1 / 3", "-0.33"}, {"1", "-2 / 3", "-0.67"}, {"1/3", "3", "1"}, {"1/3", "1 / 3", "0.11"}, {"-1/3", "-1 / 3", "0.11"},
	} {
		for _, d := range []api.Deal{right(c.m, c.pay), flat(c.m, c.pay)} {
			comes(t, d, sample(), c.want)
			reckons(t, d, sample())
		}
	}
	d := deals()[0]
	for p, want := range map[string]string{"60": "1000", "50": "0", "40": "0", "150001/3000": "0.03", "50.00005": "0", "50.00015": "0.02", "50.00006": "0.01", "1000000000000000000000050": "100000000000000000000000000"} {
		comes(t, d, []api.Fix{fix("x", 9, p)}, want)
	}
	f := flat("-1/200", "max(px(x, 9) - 50, 0)")
	for p, want := range map[string]string{"53": "-0.02", "51": "0", "52": "-0.01", "54": "-0.02", "55": "-0.02", "57": "-0.04", "50": "0", "0": "0", "250": "-1"} {
		comes(t, f, []api.Fix{fix("x", 9, p)}, want)
	}
}

// P14.2: halves of a cent go to the even one; what is beside them to the nearest one.
func TestHalves(t *testing.T) {
	for s, want := range map[string]string{
		"0.005": "0", "0.015": "0.02", "0.025": "0.02", "0.035": "0.04", "0.045": "0.04", "0.095": "0.1", "0.105": "0.1", "0.115": "0.12", "0.985": "0.98", "0.995": "1", "1.005": "1", "99.995": "100", "999.985": "999.98",
		"0.0049999999": "0", "0.0050000001": "0.01", "0.0149999999": "0.01", "0.0150000001": "0.02", "0.0249999999": "0.02", "0.0250000001": "0.03", "0.01": "0.01", "0.009": "0.01", "0.011": "0.01", "0.004": "0", "0.006": "0.01",
		"100000000000000000000000000000.005": "100000000000000000000000000000", "100000000000000000000000000000.015": "100000000000000000000000000000.02",
	} {
		for _, d := range []api.Deal{flat("1", s), right("1", s), flat(s, "1"), right(s, "1")} {
			comes(t, d, nil, want)
			d.Mult.Num = "-" + d.Mult.Num
			comes(t, d, nil, "-"+want)
			d.Pay = join(api.TNeg, d.Pay)
			comes(t, d, nil, want)
		}
	}
	for k := -60; k <= 60; k++ {
		for _, beside := range []string{"0", "1/1000000000", "-1/1000000000", "1/3000", "-1/3000"} {
			p := new(big.Rat).Add(big.NewRat(int64(k), 200), figured(beside))
			for _, m := range []string{"1", "-1", "3", "1/3", "0.1", "7/5"} {
				reckons(t, flat(m, "px(x, 1)"), []api.Fix{{Asset: "x", Day: 1, P: of(p)}})
				reckons(t, right(m, "px(x, 1)"), []api.Fix{{Asset: "x", Day: 1, P: of(new(big.Rat).Quo(p, figured(m)))}})
			}
		}
	}
}

// P14.2, P2: rounded is only the product, and that once.
func TestRoundedOnce(t *testing.T) {
	for _, c := range []struct{ m, pay, want string }{
		{"1000", "0.005", "5"}, {"1000", "0.0049", "4.9"}, {"3", "1 / 3", "1"}, {"0.001", "1000", "1"}, {"0.005", "1000", "5"}, {"1/3", "300", "100"}, {"300", "px(y, 5)", "100"}, {"1000", "px(y, 3) - px(y, 4)", "2"}, {"1000000", "px(y, 3) / 3", "333.33"},
		{"0.001", "12345", "12.34"}, {"0.001", "12355", "12.36"}, {"0.1", "0.1449", "0.01"}, {"0.1", "0.149", "0.01"}, {"0.1", "0.15", "0.02"}, {"0.1", "0.1501", "0.02"}, {"100", "num(1, 1000000)", "0"}, {"100", "num(51, 1000000)", "0.01"},
		{"1" + strings.Repeat("0", 59), "num(1, 1" + strings.Repeat("0", 59) + ")", "1"}, {"1/1" + strings.Repeat("0", 59), "1" + strings.Repeat("0", 59), "1"}, {strings.Repeat("9", 60), "num(1, 3)", strings.Repeat("3", 60)},
		{strings.Repeat("9", 60), strings.Repeat("9", 60), strings.Repeat("9", 59) + "8" + strings.Repeat("0", 59) + "1"}, {"-1/" + power(2, 199), power(2, 199), "-1"}, {power(3, 125) + "/" + power(2, 199), "num(" + power(2, 199) + ", " + power(3, 125) + ")", "1"}, {"1/" + power(2, 199), "num(1, " + power(5, 85) + ")", "0"},
	} {
		for _, d := range []api.Deal{flat(c.m, c.pay), right(c.m, c.pay)} {
			comes(t, d, sample(), c.want)
			reckons(t, d, sample())
		}
	}
}

// P14.2: a right that is not chosen comes to 0, whatever it would come to; a flat one does not ask.
func TestChosen(t *testing.T) {
	zero := api.Rat{Num: "0", Den: "1"}
	for _, pay := range []string{"1", "-1", "0", "px(x, 1)", "px(x, 9) - 50", "px(y, 1)", "1 / 3"} {
		for _, m := range []string{"1", "-1", "100", "1/3"} {
			d, f := right(m, pay), flat(m, pay)
			if got, err := told(t, d, sample(), false); got != zero || err != api.OK {
				t.Errorf("%s, not chosen, comes to %v, %d", printed(d), got, err)
			}
			want, _ := told(t, d, sample(), true)
			for _, is := range []bool{false, true} {
				if got, err := told(t, f, sample(), is); got != want || err != api.OK {
					t.Errorf("%s comes to %v, %d, not %v", printed(f), got, err, want)
				}
			}
			if pay != "0" && want == zero {
				t.Errorf("%s comes to 0", printed(d))
			}
		}
	}
}

// notTables answers tables that may not be.
func notTables() [][]api.Fix {
	l := sample()
	out := [][]api.Fix{{{}}, {{Asset: "x", Day: 1}}, {fix("x", 2, "1"), fix("x", 1, "1")}, {fix("x", 1, "1"), fix("x", 1, "1")}, {fix("y", 1, "1"), fix("x", 1, "1")}, {fix("X", 1, "1")}, {fix("", 1, "1")}, {fix("x", -1, "1")}, {fix("x", 10000, "1")}, {{Asset: "x", Day: 1, P: api.Rat{Num: "2", Den: "2"}}}, append(sample(), fix("a", 1, "1"))}
	for i, f := range l {
		out = append(out, slices.Insert(slices.Clone(l), i, f))
		none := slices.Clone(l)
		none[i].P = api.Rat{}
		out = append(out, none)
	}
	return out
}

// P14.2: of several errors the one that is named first, be the deal a right or flat, chosen or not.
func TestErrors(t *testing.T) {
	if api.ErrDeal != 140 || api.ErrArg != 1 || api.ErrEvalNone != 130 || api.ErrEvalZero != 131 {
		t.Fatal("the document's errors")
	}
	pays := map[string]api.Errno{
		"1": api.OK, "px(x, 1)": api.OK, "avg(x, 0, 3)": api.OK,
		"px(x, 4)": 130, "px(x, 10)": 130, "px(nowhere, 0)": 130, "avg(x, 3, 5)": 130, "hi(x, 4, 4)": 130, "lo(y, 0, 1)": 130, "if(1, 2, px(x, 4))": 130, "0 * px(x, 4)": 130, "1 / 0 + px(x, 4)": 130, "px(x, 4) / (px(y, 2) - px(y, 2))": 130, "if(-1, px(x, 4), 1 / 0)": 130,
		"1 / 0": 131, "px(x, 1) / px(y, 2)": 131, "0 / 0": 131, "if(1, 2, 3 / 0)": 131, "1 / (1 / 0)": 131, "max(1, 1 / (px(x, 1) - 1))": 131, "1 / (px(x, 1) - px(x, 1)) * 0": 131,
	}
	for pay, want := range pays {
		for _, m := range []string{"1", "-1/3"} {
			for _, d := range []api.Deal{right(m, pay), flat(m, pay)} {
				if want != api.OK {
					fails(t, d, sample(), want)
				}
				if _, err := reckons(t, d, sample()); err != want {
					t.Errorf("%s: %d, not %d", printed(d), err, want)
				}
				for _, l := range notTables() {
					fails(t, d, l, 1)
				}
				// ErrDeal comes first, whatever else is wrong.
				for _, turn := range []func(d *api.Deal){func(d *api.Deal) { d.Name = "" }, func(d *api.Deal) { d.Short = "ann" }, func(d *api.Deal) { d.Day = -1 }, func(d *api.Deal) { d.Mult = api.Rat{Num: "0", Den: "1"} }, func(d *api.Deal) { d.Pay = append(d.Pay, api.Node{Op: api.TOps}) }} {
					for _, l := range [][]api.Fix{nil, sample(), {{}}, append(sample(), fix("a", 1, "1"))} {
						fails(t, turned(d, turn), l, 140)
					}
				}
			}
		}
	}
	for _, l := range [][]api.Fix{nil, {}, sample()[:0]} {
		comes(t, flat("2", "3"), l, "6")
		comes(t, right("2", "3"), l, "6")
		fails(t, flat("2", "1 / 0"), l, 131)
		fails(t, right("2", "1 / 0"), l, 131)
		fails(t, flat("2", "px(x, 1)"), l, 130)
		fails(t, right("2", "px(x, 1)"), l, 130)
	}
}

// P14.2: neither the deal's day nor its names count in what it comes to.
func TestDaysDoNotCount(t *testing.T) {
	for _, d := range deals() {
		want, wantErr := reckons(t, d, sample())
		for _, x := range []api.Deal{turned(d, func(d *api.Deal) { d.Day = 0 }), turned(d, func(d *api.Deal) { d.Day = 9999 }), turned(d, func(d *api.Deal) { d.Name = "other" }), turned(d, func(d *api.Deal) { d.Long, d.Short = d.Short, d.Long })} {
			if got, err := told(t, x, sample(), true); got != want || err != wantErr {
				t.Errorf("%s comes to %v, %d, not %v, %d", printed(x), got, err, want, wantErr)
			}
		}
	}
}

// P14.2: a Pay as large, as deep and as long in print as may be, and a Mult as long as may be.
func TestGreatAmounts(t *testing.T) {
	l := row("y", 0, "5")
	long := "-" + power(3, 125) + "/" + power(2, 199)
	for _, pay := range []api.Term{most(api.TAdd, read("px(y, 0)")), most(api.TMul, read("px(y, 0)")), most(api.TAdd, read("1")), chain(read("px(y, 0)"), 149), chain(read("1"), 148)} {
		for _, m := range []string{"1", "0.001", "1/3", long} {
			d := flat(m, "1")
			d.Pay = pay
			reckons(t, d, l)
			d.Right = true
			if _, err := reckons(t, d, l); err != api.OK {
				t.Errorf("%.100s: %d", printed(d), err)
			}
			d.Pay = join(api.TNeg, join(api.TNeg, pay))
			fails(t, d, l, 140)
		}
	}
	d := flat("2", "1")
	d.Pay = most(api.TAdd, read("px(y, 0)"))
	comes(t, d, l, "-10000")
	d.Pay = chain(read("px(y, 0)"), 149)
	comes(t, d, l, "-10")
	var q []api.Fix
	for length := 1; length <= 20; length++ {
		q = append(q, fix(strings.Repeat("q", length), 1, "1"))
	}
	d.Pay = sized(20000)
	comes(t, d, q, strconv.Itoa(len(d.Pay)+1))
	// As long numbers as a print lets them be.
	d.Mult, d.Pay = mult(long), balanced(api.TMul, slices.Repeat([]api.Term{read("num(" + power(3, 125) + ", " + power(7, 70) + ")")}, 145))
	if term.Check(d.Pay) != api.OK {
		t.Fatal("too long")
	}
	reckons(t, d, nil)
}

// P14.2, P2: by prices of very many digits.
func TestLongPrices(t *testing.T) {
	nines := strings.Repeat("9", 3000)
	l := []api.Fix{fix("x", 1, nines), fix("x", 2, "1/"+nines), fix("x", 3, "-"+nines+"/700"), fix("x", 4, nines+".005")}
	for _, pay := range []string{"px(x, 1)", "px(x, 2)", "px(x, 1) * px(x, 2)", "px(x, 3)", "px(x, 4)", "avg(x, 1, 4)", "px(x, 1) + px(x, 3)"} {
		for _, m := range []string{"1", "-1/3", "0.005", power(7, 70)} {
			reckons(t, flat(m, pay), l)
		}
	}
}

// P14.2: random deals by random tables.
func TestRandomAmounts(t *testing.T) {
	r := rand.New(rand.NewSource(142))
	many := map[api.Errno]int{}
	for range 3000 {
		d, l := random(r), sample()
		for i := range l {
			l[i].P = of(big.NewRat(int64(r.Intn(2001)-1000), int64(1+r.Intn(400))))
		}
		if r.Intn(10) == 0 {
			l = append(l, l[r.Intn(len(l))])
		}
		if r.Intn(10) == 0 {
			d.Mult = api.Rat{}
		}
		if r.Intn(2) == 0 {
			d.Mult = of(big.NewRat(int64(1+r.Intn(100)), int64(1+r.Intn(200))))
		}
		_, err := reckons(t, d, l)
		many[err]++
	}
	if many[api.OK] < 500 || many[1] < 100 || many[130] < 100 || many[131] < 20 || many[140] < 50 {
		t.Errorf("%v", many)
	}
}

// R4: an answer may be written into without another answer changing; nor is written into the room behind an argument.
func TestNothingIsShared(t *testing.T) {
	d := deals()[0]
	pay, l := d.Pay, sample()
	d.Pay = append(make(api.Term, 0, 50), pay...)
	table := append(make([]api.Fix, 0, 100), l...)
	for range 3 {
		one, _ := parsed(t, example)
		other, _ := parsed(t, example)
		clear(one.Pay)
		if _ = append(one.Pay, api.Node{}); !same(other, deals()[0]) {
			t.Fatalf("%v", other)
		}
		good(t, d)
		comes(t, d, table, "1000")
		if deal.Print(d) != example || !slices.Equal(d.Pay, pay) || !slices.Equal(table, l) {
			t.Fatalf("%v, %v", d, table)
		}
	}
	for _, n := range d.Pay[:cap(d.Pay)][len(pay):] {
		if n != (api.Node{}) {
			t.Fatalf("%v was written behind the term", n)
		}
	}
	for _, f := range table[:cap(table)][len(l):] {
		if f != (api.Fix{}) {
			t.Fatalf("%v was written behind the table", f)
		}
	}
}

// R3: what was asked before is not kept.
func TestAnswersAgain(t *testing.T) {
	d := right("100", "max(px(x, 9) - 50, 0)")
	for range 3 {
		comes(t, d, sample(), "1000")
		comes(t, d, []api.Fix{fix("x", 9, "51")}, "100")
		fails(t, d, nil, 130)
		fails(t, api.Deal{}, nil, 140)
		fails(t, d, []api.Fix{{}}, 1)
		bad(t, turned(d, func(d *api.Deal) { d.Day = 10000 }))
		good(t, d)
		refuses(t, "")
		takes(t, example)
	}
}
