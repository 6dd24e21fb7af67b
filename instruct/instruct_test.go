package instruct_test

import (
	"math"
	"math/big"
	"math/rand"
	"slices"
	"strconv"
	"strings"
	"testing"

	"debenture/api"
	"debenture/book"
	"debenture/instruct"
	"debenture/post"
)

// num answers the Rat of a text.
func num(q string) api.Rat {
	x, is := new(big.Rat).SetString(q)
	if !is {
		panic(q)
	}
	return api.Rat{Num: x.Num().String(), Den: x.Denom().String()}
}

// minus answers the Rat with the other sign.
func minus(t *testing.T, x api.Rat) api.Rat {
	t.Helper()
	return num(new(big.Rat).Neg(number(t, x)).String())
}

// number answers the library's number of a Rat, which has to stand in its one form.
func number(t *testing.T, x api.Rat) *big.Rat {
	t.Helper()
	n, is := new(big.Rat).SetString(x.Num + "/" + x.Den)
	if !is || num(n.String()) != x {
		t.Fatalf("%v is no Rat that may be", x)
	}
	return n
}

// line answers a line, its number from a text.
func line(acct, asset, q string) api.Line {
	return api.Line{Acct: acct, Asset: asset, Q: num(q)}
}

// owe answers an instruction that was dealt on day 1, and is due on day 3.
func owe(id int, from, to, asset, q, pay string) api.Instr {
	return api.Instr{ID: id, Dealt: 1, Due: 3, From: from, To: to, Asset: asset, Q: num(q), Pay: num(pay)}
}

// due answers the instruction, due on another day.
func due(x api.Instr, day int) api.Instr {
	x.Due = day
	return x
}

// sample answers instructions of many kinds.
func sample() []api.Instr {
	long := strings.Repeat("z", 20)
	return []api.Instr{
		owe(1, "ann", "bob", "x", "2", "7"),
		due(owe(2, "bob", "ann", "x", "1/3", "0"), 1),
		{ID: 3, Dealt: 0, Due: 0, From: "!issuer", To: "ann", Asset: "y", Q: num("5"), Pay: num("2/7")},
		{ID: 7, Dealt: 0, Due: 9999, From: "ann", To: "!round", Asset: "x", Q: num("1"), Pay: num("0")},
		{ID: 8, Dealt: 5, Due: 6, From: "ann", To: "bob", Asset: "cash", Q: num("3"), Pay: num("1")},
		{ID: 1000000, Dealt: 9999, Due: 9999, From: "!a", To: "!b", Asset: "!x", Q: num("1/100000000000000000000"), Pay: num("100000000000000000000")},
		{ID: math.MaxInt - 1, Dealt: math.MaxInt, Due: math.MaxInt, From: long, To: long[1:], Asset: "!" + long[1:], Q: num("4/3"), Pay: num("3/4")},
		{ID: math.MaxInt, Dealt: 0, Due: math.MaxInt, From: "0", To: "!", Asset: "9", Q: num("1"), Pay: num("1")},
	}
}

// notNames answers texts that are no names.
func notNames() []string {
	return []string{
		"", strings.Repeat("a", 21), "!" + strings.Repeat("a", 20), strings.Repeat("a", 3000), "!!", "a!", "!a!", "A", "aB", "!A", "-", "a-b", "_", ".", " ", "a b", " a", "a ", "a\n", "\x00", "a\x00", "/", ":", "`", "{", "@", "[", "\xff", "a\xff", "\u00e4", "\u0661",
	}
}

// notRats answers Rats that may not be.
func notRats() []api.Rat {
	return []api.Rat{
		{}, {Num: "1"}, {Den: "1"}, {Num: "0"}, {Num: "0", Den: "0"}, {Num: "1", Den: "0"}, {Num: "-1", Den: "0"}, {Num: "0", Den: "2"}, {Num: "-0", Den: "1"}, {Num: "1", Den: "-1"}, {Num: "-1", Den: "-2"},
		{Num: "2", Den: "2"}, {Num: "2", Den: "4"}, {Num: "6", Den: "9"}, {Num: "01", Den: "1"}, {Num: "1", Den: "01"}, {Num: "+1", Den: "1"}, {Num: "1", Den: "+1"}, {Num: "1.5", Den: "1"}, {Num: "a", Den: "1"}, {Num: "1", Den: "a"}, {Num: " 1", Den: "1"},
		{Num: strings.Repeat("3", 3000), Den: strings.Repeat("7", 3000)},
	}
}

// turns answers what makes an instruction that may be one that may not.
func turns() []func(x *api.Instr) {
	out := []func(x *api.Instr){
		func(x *api.Instr) { *x = api.Instr{} },
		func(x *api.Instr) { x.ID = 0 }, func(x *api.Instr) { x.ID = -1 }, func(x *api.Instr) { x.ID = math.MinInt },
		func(x *api.Instr) { x.Due = x.Dealt - 1 }, func(x *api.Instr) { x.Dealt, x.Due = 5, 4 }, func(x *api.Instr) { x.Dealt, x.Due = 5, 0 }, func(x *api.Instr) { x.Due = -1 }, func(x *api.Instr) { x.Due = math.MinInt },
		func(x *api.Instr) { x.Dealt = -1 }, func(x *api.Instr) { x.Dealt, x.Due = -1, -1 }, func(x *api.Instr) { x.Dealt, x.Due = -1, 0 }, func(x *api.Instr) { x.Dealt = math.MinInt },
		func(x *api.Instr) { x.To = x.From }, func(x *api.Instr) { x.From = x.To }, func(x *api.Instr) { x.From, x.To = "!issuer", "!issuer" },
		func(x *api.Instr) { x.Q = num("0") }, func(x *api.Instr) { x.Q = num("-1") }, func(x *api.Instr) { x.Q = num("-1/1000000000000000000000") },
		func(x *api.Instr) { x.Pay = num("-1") }, func(x *api.Instr) { x.Pay = num("-1/1000000000000000000000") }, func(x *api.Instr) { x.Q, x.Pay = x.Pay, api.Rat{} },
	}
	for _, name := range notNames() {
		out = append(out, func(x *api.Instr) { x.From = name }, func(x *api.Instr) { x.To = name }, func(x *api.Instr) { x.Asset = name })
	}
	for _, q := range notRats() {
		out = append(out, func(x *api.Instr) { x.Q = q }, func(x *api.Instr) { x.Pay = q }, func(x *api.Instr) { x.Q, x.Pay = q, q })
	}
	return out
}

// wrongLists answers instructions that may not be.
func wrongLists() [][]api.Instr {
	var out [][]api.Instr
	for _, turn := range turns() {
		for i := range sample() {
			l := sample()
			turn(&l[i])
			out = append(out, l)
		}
		alone := owe(5, "ann", "bob", "x", "2", "7")
		turn(&alone)
		out = append(out, []api.Instr{alone})
	}
	for i := 1; i < len(sample()); i++ {
		twice, swapped := sample(), sample()
		twice[i].ID = twice[i-1].ID
		swapped[i-1], swapped[i] = swapped[i], swapped[i-1]
		out = append(out, twice, swapped, append(sample(), sample()[i-1]), slices.Insert(sample(), i, sample()[i]), slices.Insert(sample(), 0, sample()[i]))
	}
	return out
}

// notBooks answers books that may not be.
func notBooks() []api.Book {
	out := []api.Book{
		{{}}, {line("ann", "x", "0")}, {line("ann", "x", "1"), line("ann", "x", "-1")}, {line("bob", "x", "1"), line("ann", "x", "1")}, {line("ann", "y", "1"), line("ann", "x", "1")},
		{line("ann", "x", "100"), line("zz", "y", "0")}, {line("ann", "x", "100"), line("ann", "y", "1"), line("ann", "x", "100")},
	}
	for _, name := range notNames() {
		out = append(out, api.Book{line(name, "x", "1")}, api.Book{line("ann", name, "1")})
	}
	for _, q := range notRats() {
		out = append(out, api.Book{line("ann", "x", "100"), {Acct: "ann", Asset: "y", Q: q}}, api.Book{{Acct: "zz", Asset: "zz", Q: q}})
	}
	return out
}

// outcome is what Run answers.
type outcome struct {
	book api.Book
	stay []api.Instr
	done []int
	err  api.Errno
}

// same tells whether both answers are the same.
func (o outcome) same(p outcome) bool {
	return slices.Equal(o.book, p.book) && slices.Equal(o.stay, p.stay) && slices.Equal(o.done, p.done) && o.err == p.err
}

// run answers what Run does, which has to leave its arguments as they were, and to answer nothing beside an error.
func run(t *testing.T, b api.Book, l []api.Instr, day int) outcome {
	t.Helper()
	beforeBook, beforeList := slices.Clone(b), slices.Clone(l)
	var o outcome
	o.book, o.stay, o.done, o.err = instruct.Run(b, l, day)
	if !slices.Equal(b, beforeBook) || !slices.Equal(l, beforeList) {
		t.Fatalf("Run(%v, %v, %d) leaves %v and %v", beforeBook, beforeList, day, b, l)
	}
	if o.err != api.OK && (o.book != nil || o.stay != nil || o.done != nil) {
		t.Fatalf("Run(%v, %v, %d): %v", b, l, day, o)
	}
	if o.err == api.OK && (!book.May(o.book) || !instruct.May(o.stay)) {
		t.Fatalf("Run(%v, %v, %d): %v", b, l, day, o)
	}
	return o
}

// check wants an answer of Run; the book that comes of it, and the instructions that stay, change no more on the same day where nothing was done.
func check(t *testing.T, b api.Book, l []api.Instr, day int, want outcome) {
	t.Helper()
	got := run(t, b, l, day)
	if !got.same(want) {
		t.Fatalf("Run(%v, %v, %d): %v, not %v", b, l, day, got, want)
	}
	if got.err == api.OK && len(got.done) == 0 && (!slices.Equal(got.book, b) || !slices.Equal(got.stay, l)) {
		t.Fatalf("Run(%v, %v, %d): nothing is done, but %v", b, l, day, got)
	}
}

// posted answers what the document's words say: post.Apply, covered, one by one.
func posted(t *testing.T, b api.Book, l []api.Instr, day int) outcome {
	t.Helper()
	o := outcome{book: b}
	for _, x := range l {
		if x.Due > day {
			o.stay = append(o.stay, x)
			continue
		}
		lines := []api.Line{{Acct: x.From, Asset: x.Asset, Q: minus(t, x.Q)}, {Acct: x.To, Asset: x.Asset, Q: x.Q}}
		if x.Pay.Num != "0" {
			lines = append(lines, api.Line{Acct: x.To, Asset: "cash", Q: minus(t, x.Pay)}, api.Line{Acct: x.From, Asset: "cash", Q: x.Pay})
		}
		next, err := post.Apply(o.book, lines, true)
		if err != api.OK {
			o.stay = append(o.stay, x)
			continue
		}
		o.book, o.done = next, append(o.done, x.ID)
	}
	return o
}

// P8.1
func TestMay(t *testing.T) {
	good := sample()
	for i := range good {
		for j := i; j <= len(good); j++ {
			if !instruct.May(good[i:j]) {
				t.Errorf("May of instructions %d to %d", i, j)
			}
		}
	}
	if !instruct.May(nil) || !instruct.May([]api.Instr{}) {
		t.Error("May of none")
	}
	for _, name := range []string{"a", "z", "0", "9", "!", "!a", "!0", "cash", "007", "!round", strings.Repeat("a", 20), "!" + strings.Repeat("9", 19)} {
		if !instruct.May([]api.Instr{owe(1, name, "bob", "x", "1", "0"), owe(2, "bob", name, "x", "1", "0"), owe(3, "bob", "ann", name, "1", "0"), owe(4, name, "bob", name, "1", "1")}) {
			t.Errorf("May with %q", name)
		}
	}
	for _, l := range wrongLists() {
		before := slices.Clone(l)
		if instruct.May(l) {
			t.Errorf("May(%v)", l)
		}
		if !slices.Equal(l, before) {
			t.Errorf("May made %v of %v", l, before)
		}
	}
}

// P8.1: IDs rise, from 1 on; they need not begin with 1, or be all there.
func TestMayByIDs(t *testing.T) {
	ids := []int{math.MinInt, -2, -1, 0, 1, 2, 3, 9, math.MaxInt}
	for _, i := range ids {
		for _, j := range ids {
			for _, k := range ids {
				l := []api.Instr{owe(i, "ann", "bob", "x", "1", "0"), owe(j, "ann", "bob", "x", "1", "0"), owe(k, "bob", "ann", "y", "1", "2")}
				if got := instruct.May(l); got != (0 < i && i < j && j < k) {
					t.Errorf("May by the IDs %d, %d, %d: %t", i, j, k, got)
				}
			}
		}
		if got := instruct.May([]api.Instr{owe(i, "ann", "bob", "x", "1", "0")}); got != (i > 0) {
			t.Errorf("May by the ID %d: %t", i, got)
		}
	}
}

// P8.1: Due is not below Dealt, which is not below 0.
func TestMayByDays(t *testing.T) {
	days := []int{math.MinInt, -1, 0, 1, 2, 9999, 10000, math.MaxInt}
	for _, dealt := range days {
		for _, day := range days {
			x := owe(1, "ann", "bob", "x", "1", "0")
			x.Dealt, x.Due = dealt, day
			if got := instruct.May([]api.Instr{x}); got != (dealt >= 0 && day >= dealt) {
				t.Errorf("May of what was dealt on %d, and is due on %d: %t", dealt, day, got)
			}
		}
	}
}

// P8.1
func TestLines(t *testing.T) {
	for _, c := range []struct {
		x    api.Instr
		want []api.Line
	}{
		{owe(1, "bob", "ann", "x", "5", "7"), []api.Line{line("bob", "x", "-5"), line("ann", "x", "5"), line("ann", "cash", "-7"), line("bob", "cash", "7")}},
		{owe(1, "ann", "bob", "x", "5", "7"), []api.Line{line("ann", "x", "-5"), line("bob", "x", "5"), line("bob", "cash", "-7"), line("ann", "cash", "7")}},
		{owe(1, "bob", "ann", "x", "5", "0"), []api.Line{line("bob", "x", "-5"), line("ann", "x", "5")}},
		{owe(1, "bob", "ann", "x", "1/3", "2/7"), []api.Line{line("bob", "x", "-1/3"), line("ann", "x", "1/3"), line("ann", "cash", "-2/7"), line("bob", "cash", "2/7")}},
		{owe(1, "bob", "ann", "cash", "5", "0"), []api.Line{line("bob", "cash", "-5"), line("ann", "cash", "5")}},
		{owe(1, "bob", "ann", "cash", "5", "7"), []api.Line{line("bob", "cash", "-5"), line("ann", "cash", "5"), line("ann", "cash", "-7"), line("bob", "cash", "7")}},
		{owe(1, "bob", "ann", "cash", "5", "5"), []api.Line{line("bob", "cash", "-5"), line("ann", "cash", "5"), line("ann", "cash", "-5"), line("bob", "cash", "5")}},
		{owe(99, "!issuer", "!round", "!x", "1", "1"), []api.Line{line("!issuer", "!x", "-1"), line("!round", "!x", "1"), line("!round", "cash", "-1"), line("!issuer", "cash", "1")}},
		{due(owe(math.MaxInt, "x", "cash", "y", "1000000000000000000000000", "1"), math.MaxInt), []api.Line{line("x", "y", "-1000000000000000000000000"), line("cash", "y", "1000000000000000000000000"), line("cash", "cash", "-1"), line("x", "cash", "1")}},
	} {
		if got := instruct.Lines(c.x); !slices.Equal(got, c.want) {
			t.Errorf("Lines(%v): %v, not %v", c.x, got, c.want)
		}
	}
	for _, x := range sample() {
		lines := instruct.Lines(x)
		if !post.Balanced(lines) || len(lines) != 2 && x.Pay.Num == "0" || len(lines) != 4 && x.Pay.Num != "0" {
			t.Errorf("Lines(%v): %v", x, lines)
		}
		for i, turn := range turns() {
			wrong := x
			turn(&wrong)
			if got := instruct.Lines(wrong); got != nil {
				t.Errorf("by turn %d Lines(%v): %v", i, wrong, got)
			}
		}
	}
}

// P8.1
func TestFind(t *testing.T) {
	l := sample()
	for i, x := range l {
		if got := instruct.Find(l, x.ID); got != i {
			t.Errorf("Find of %d: %d", x.ID, got)
		}
		if got := instruct.Find(l[i+1:], x.ID); got != -1 {
			t.Errorf("Find of %d behind it: %d", x.ID, got)
		}
	}
	for _, id := range []int{0, -1, 4, 5, 6, 9, 999999, 1000001, math.MinInt} {
		if got := instruct.Find(l, id); got != -1 {
			t.Errorf("Find of %d, which is not there: %d", id, got)
		}
		if instruct.Find(nil, id) != -1 || instruct.Find([]api.Instr{}, id) != -1 {
			t.Errorf("Find of %d among none", id)
		}
	}
	// Of what may not be, and not in order, too: the first one.
	wrong := []api.Instr{{ID: 5}, {ID: 3}, {}, {ID: 3, Due: 7}, {ID: -4}, {}, {ID: 5}}
	for id, want := range map[int]int{5: 0, 3: 1, 0: 2, -4: 4, 1: -1, 7: -1} {
		if got := instruct.Find(wrong, id); got != want {
			t.Errorf("Find of %d: %d, not %d", id, got, want)
		}
	}
}

// P8.2
func TestRun(t *testing.T) {
	b := api.Book{line("!issuer", "x", "-7"), line("ann", "cash", "10"), line("bob", "x", "4")}
	l := []api.Instr{
		owe(1, "bob", "ann", "x", "5", "0"),
		owe(2, "bob", "ann", "x", "2", "7"),
		due(owe(5, "bob", "ann", "x", "1", "0"), 4),
		owe(6, "bob", "ann", "x", "1", "4"),
		owe(7, "bob", "ann", "x", "1", "3"),
		owe(9, "!issuer", "cid", "x", "3/2", "0"),
	}
	for _, day := range []int{math.MinInt, -1, 0, 1, 2} {
		check(t, b, l, day, outcome{book: b, stay: l})
	}
	after := api.Book{line("!issuer", "x", "-17/2"), line("ann", "x", "3"), line("bob", "cash", "10"), line("bob", "x", "1"), line("cid", "x", "3/2")}
	check(t, b, l, 3, outcome{book: after, stay: []api.Instr{l[0], l[2], l[3]}, done: []int{2, 7, 9}})
	check(t, after, []api.Instr{l[0], l[2], l[3]}, 3, outcome{book: after, stay: []api.Instr{l[0], l[2], l[3]}})
	last := api.Book{line("!issuer", "x", "-17/2"), line("ann", "x", "4"), line("bob", "cash", "10"), line("cid", "x", "3/2")}
	check(t, after, []api.Instr{l[0], l[2], l[3]}, 4, outcome{book: last, stay: []api.Instr{l[0], l[3]}, done: []int{5}})
	for _, day := range []int{4, 5, 9999, math.MaxInt} {
		// All of them are due at once: ann can't pay for 6, and bob has just enough left for 7.
		got := run(t, b, l, day)
		if !got.same(posted(t, b, l, day)) || !slices.Equal(got.done, []int{2, 5, 7, 9}) {
			t.Errorf("Run on day %d: %v", day, got)
		}
	}
	check(t, api.Book{line("bob", "x", "2")}, []api.Instr{owe(1, "bob", "ann", "x", "3", "0")}, 3, outcome{book: api.Book{line("bob", "x", "2")}, stay: []api.Instr{owe(1, "bob", "ann", "x", "3", "0")}})
	check(t, api.Book{line("bob", "x", "2")}, []api.Instr{owe(1, "bob", "ann", "x", "2", "0")}, 3, outcome{book: api.Book{line("ann", "x", "2")}, done: []int{1}})
}

// P8.2: what is due today, and what a day later.
func TestRunByDays(t *testing.T) {
	b := api.Book{line("bob", "x", "4")}
	for _, at := range []int{0, 1, 7, 9999, math.MaxInt - 1} {
		x := api.Instr{ID: 4, Dealt: 0, Due: at, From: "bob", To: "ann", Asset: "x", Q: num("4"), Pay: num("0")}
		l := []api.Instr{x}
		check(t, b, l, at-1, outcome{book: b, stay: l})
		for _, day := range []int{at, at + 1, math.MaxInt} {
			check(t, b, l, day, outcome{book: api.Book{line("ann", "x", "4")}, done: []int{4}})
		}
	}
	// When it was dealt does not count.
	x := due(owe(1, "bob", "ann", "x", "1", "0"), 7)
	x.Dealt = 7
	check(t, b, []api.Instr{x}, 6, outcome{book: b, stay: []api.Instr{x}})
	check(t, b, []api.Instr{x}, 7, outcome{book: api.Book{line("ann", "x", "1"), line("bob", "x", "3")}, done: []int{1}})
}

// P8.2: which instructions are covered, by what there is, and by what came of those ahead.
func TestCover(t *testing.T) {
	b := api.Book{line("!a", "x", "1"), line("ann", "cash", "10"), line("bob", "cash", "-5"), line("bob", "x", "4"), line("cid", "x", "-1")}
	for _, c := range []struct {
		l    []api.Instr
		done []int
	}{
		// The asset lacks, or all but a bit of it is there.
		{[]api.Instr{owe(1, "bob", "ann", "x", "4", "10")}, []int{1}},
		{[]api.Instr{owe(1, "bob", "ann", "x", "4.01", "10")}, nil},
		{[]api.Instr{owe(1, "bob", "ann", "y", "1/1000", "0")}, nil},
		{[]api.Instr{owe(1, "nobody", "ann", "x", "1/1000", "0")}, nil},
		// The cash lacks, though the asset is there.
		{[]api.Instr{owe(1, "bob", "ann", "x", "1", "10.01")}, nil},
		{[]api.Instr{owe(1, "bob", "cid", "x", "1", "1/1000")}, nil},
		{[]api.Instr{owe(1, "bob", "cid", "x", "1", "0")}, []int{1}},
		// Both lack.
		{[]api.Instr{owe(1, "bob", "ann", "x", "5", "11")}, nil},
		// Who has less than 0 may get of it, but not give of it; he may give of another asset.
		{[]api.Instr{owe(1, "ann", "bob", "cash", "1", "0")}, []int{1}},
		{[]api.Instr{owe(1, "bob", "ann", "cash", "1", "0")}, nil},
		{[]api.Instr{owe(1, "cid", "ann", "x", "1", "1")}, nil},
		{[]api.Instr{owe(1, "bob", "cid", "x", "1/2", "0")}, []int{1}},
		// From or To is free: of the asset, of the cash.
		{[]api.Instr{owe(1, "!issuer", "ann", "x", "1000", "10")}, []int{1}},
		{[]api.Instr{owe(1, "!issuer", "ann", "x", "1000", "11")}, nil},
		{[]api.Instr{owe(1, "!issuer", "nobody", "x", "1", "1")}, nil},
		{[]api.Instr{owe(1, "bob", "!issuer", "x", "4", "1000")}, []int{1}},
		{[]api.Instr{owe(1, "bob", "!issuer", "x", "5", "1000")}, nil},
		{[]api.Instr{owe(1, "!a", "!b", "x", "1000", "1000")}, []int{1}},
		{[]api.Instr{owe(1, "!new", "!issuer", "new", "1", "0")}, []int{1}},
		// One stays, and one behind it is covered.
		{[]api.Instr{owe(1, "bob", "ann", "x", "5", "0"), owe(2, "bob", "ann", "x", "4", "0")}, []int{2}},
		{[]api.Instr{owe(1, "bob", "ann", "x", "5", "0"), owe(2, "bob", "ann", "x", "3", "0"), owe(3, "bob", "ann", "x", "2", "0"), owe(4, "bob", "ann", "x", "1", "0")}, []int{2, 4}},
		// One ahead took what was there: the asset, and the cash.
		{[]api.Instr{owe(1, "bob", "ann", "x", "3", "0"), owe(2, "bob", "ann", "x", "2", "0")}, []int{1}},
		{[]api.Instr{owe(1, "bob", "ann", "x", "1", "6"), owe(2, "bob", "ann", "x", "1", "5")}, []int{1}},
		{[]api.Instr{owe(1, "bob", "ann", "x", "1", "6"), owe(2, "bob", "ann", "x", "1", "4")}, []int{1, 2}},
		// One ahead brought what lacks: the asset, and the cash.
		{[]api.Instr{owe(1, "bob", "dan", "x", "2", "0"), owe(2, "dan", "ann", "x", "2", "0")}, []int{1, 2}},
		{[]api.Instr{owe(1, "bob", "dan", "x", "2", "0"), owe(2, "dan", "ann", "x", "2", "9"), owe(3, "ann", "eve", "x", "1", "0"), owe(4, "bob", "eve", "x", "1", "1"), owe(5, "bob", "dan", "x", "1", "9")}, []int{1, 2, 3, 5}},
		{[]api.Instr{owe(1, "bob", "ann", "x", "1", "10"), owe(2, "!issuer", "bob", "y", "1", "5")}, []int{1, 2}},
		{[]api.Instr{owe(1, "bob", "ann", "x", "1", "10"), owe(2, "!issuer", "bob", "y", "1", "6")}, []int{1}},
		// One behind brings what lacks: that is too late for today.
		{[]api.Instr{owe(1, "dan", "ann", "x", "2", "0"), owe(2, "bob", "dan", "x", "2", "0")}, []int{2}},
		// One ahead that stays brings nothing.
		{[]api.Instr{owe(1, "bob", "dan", "x", "5", "0"), owe(2, "dan", "ann", "x", "2", "0")}, nil},
		{[]api.Instr{due(owe(1, "bob", "dan", "x", "2", "0"), 4), owe(2, "dan", "ann", "x", "2", "0")}, nil},
		// Cash against cash: what comes of both counts.
		{[]api.Instr{owe(1, "ann", "bob", "cash", "10", "0")}, []int{1}},
		{[]api.Instr{owe(1, "ann", "dan", "cash", "15", "5")}, []int{1}},
		{[]api.Instr{owe(1, "ann", "dan", "cash", "15.01", "5")}, nil},
		{[]api.Instr{owe(1, "dan", "ann", "cash", "5", "15")}, []int{1}},
		{[]api.Instr{owe(1, "dan", "eve", "cash", "7", "7")}, []int{1}},
		{[]api.Instr{owe(1, "bob", "eve", "cash", "7", "7")}, []int{1}},
		{[]api.Instr{owe(1, "bob", "ann", "cash", "7", "6")}, nil},
		{[]api.Instr{owe(1, "bob", "ann", "cash", "6", "7")}, []int{1}},
	} {
		got := run(t, b, c.l, 3)
		if got.err != api.OK || !slices.Equal(got.done, c.done) {
			t.Errorf("Run of %v: %v, not %v", c.l, got, c.done)
		}
		check(t, b, c.l, 3, posted(t, b, c.l, 3))
		check(t, nil, c.l, 3, posted(t, nil, c.l, 3))
	}
}

// P8.2: what is not on the way of an instruction, and what is beside it, stays as it is, in its order.
func TestRunAmidOthers(t *testing.T) {
	b := api.Book{
		line("!issuer", "cash", "-3"), line("an", "x", "1"), line("ann", "cash", "10"), line("ann", "cash0", "-2"), line("ann", "w", "3"), line("ann", "xx", "1/3"), line("anna", "x", "-7"),
		line("bob", "casg", "1"), line("bob", "x", "4"), line("bob", "y", "4"), line("zz", "cash", "4"),
	}
	check(t, b, []api.Instr{owe(3, "bob", "ann", "x", "1", "4")}, 3, outcome{done: []int{3}, book: api.Book{
		b[0], b[1], line("ann", "cash", "6"), b[3], b[4], line("ann", "x", "1"), b[5], b[6], b[7], line("bob", "cash", "4"), line("bob", "x", "3"), b[9], b[10],
	}})
	check(t, b, []api.Instr{owe(3, "bob", "ann", "x", "4", "10")}, 3, outcome{done: []int{3}, book: api.Book{
		b[0], b[1], b[3], b[4], line("ann", "x", "4"), b[5], b[6], b[7], line("bob", "cash", "10"), b[9], b[10],
	}})
	check(t, b, []api.Instr{owe(3, "bob", "ann", "x", "5", "10")}, 3, outcome{book: b, stay: []api.Instr{owe(3, "bob", "ann", "x", "5", "10")}})
}

// P8.2: instructions or a book that may not be, also where nothing is due, or there is nothing.
func TestRunOfWrongOnes(t *testing.T) {
	good := api.Book{line("ann", "x", "100"), line("bob", "cash", "100")}
	refused := outcome{err: api.ErrArg}
	for _, l := range wrongLists() {
		for _, day := range []int{-1, 3, math.MaxInt} {
			check(t, good, l, day, refused)
			check(t, nil, l, day, refused)
		}
	}
	for _, b := range notBooks() {
		for _, l := range [][]api.Instr{nil, {}, {owe(1, "ann", "bob", "x", "1", "1")}, {owe(1, "!issuer", "!round", "w", "1", "0")}, sample(), {{}}} {
			for _, day := range []int{math.MinInt, 0, 3, math.MaxInt} {
				check(t, b, l, day, refused)
			}
		}
	}
}

// randomInstrs answers instructions of few accounts and assets, so that many come together.
func randomInstrs(r *rand.Rand, first, many int) []api.Instr {
	accts := []string{"!", "!issuer", "ann", "anna", "bob", "cid"}
	assets := []string{"cash", "x", "xx"}
	var l []api.Instr
	id := first
	for range many {
		from := r.Intn(len(accts))
		to := (from + 1 + r.Intn(len(accts)-1)) % len(accts)
		dealt := r.Intn(4)
		l = append(l, api.Instr{
			ID: id, Dealt: dealt, Due: dealt + r.Intn(4), From: accts[from], To: accts[to], Asset: assets[r.Intn(len(assets))],
			Q: num(big.NewRat(int64(1+r.Intn(6)), int64(1+r.Intn(3))).String()), Pay: num(big.NewRat(int64(r.Intn(4)), int64(1+r.Intn(2))).String()),
		})
		id += 1 + r.Intn(3)
	}
	return l
}

// randomBook answers a book that came of balanced postings; some accounts have less than 0.
func randomBook(t *testing.T, r *rand.Rand) api.Book {
	t.Helper()
	var b api.Book
	for _, x := range randomInstrs(r, 1, 12) {
		next, err := post.Apply(b, instruct.Lines(x), r.Intn(4) > 0)
		if err == api.OK {
			b = next
		}
	}
	return b
}

// P8.2 and P8.3: day by day, against what the document's words say; each ID is done once, as a whole, or there; all that is there stays as it was, and the totals, too.
func TestDayByDay(t *testing.T) {
	r := rand.New(rand.NewSource(1))
	counts := map[string]int{}
	for range 150 {
		b := randomBook(t, r)
		all := randomInstrs(r, 1+r.Intn(3), r.Intn(16))
		l := all
		settled := map[int]int{}
		at := b
		for day := -1; day < 9; day++ {
			want := posted(t, at, l, day)
			check(t, at, l, day, want)
			checkParted(t, l, want)
			at, l = want.book, want.stay
			for _, id := range want.done {
				settled[id]++
				counts["done"]++
			}
		}
		counts["stay"] += len(l)
		for _, x := range all {
			there := 0
			if instruct.Find(l, x.ID) >= 0 {
				there = 1
			}
			if settled[x.ID]+there != 1 {
				t.Fatalf("%v is done %d times, and there %d times", x, settled[x.ID], there)
			}
		}
		checkWhole(t, b, at, all, settled)
		for _, asset := range []string{"cash", "x", "xx"} {
			if got := book.Total(at, asset); got != num("0") {
				t.Fatalf("of %s %v together", asset, got)
			}
		}
	}
	if counts["done"] < 200 || counts["stay"] < 100 {
		t.Errorf("too few of a kind: %v", counts)
	}
}

// checkParted wants the IDs that are done and the instructions that stay to be all of l, each in its order.
func checkParted(t *testing.T, l []api.Instr, o outcome) {
	t.Helper()
	var stay []api.Instr
	var done []int
	for _, x := range l {
		if slices.Contains(o.done, x.ID) {
			done = append(done, x.ID)
		} else {
			stay = append(stay, x)
		}
	}
	if !slices.Equal(done, o.done) || !slices.Equal(stay, o.stay) {
		t.Fatalf("of %v %v and %v", l, o.stay, o.done)
	}
}

// checkWhole wants the book at last to be the one ahead with all lines of all that are done, and nothing else.
func checkWhole(t *testing.T, b, last api.Book, all []api.Instr, settled map[int]int) {
	t.Helper()
	var lines []api.Line
	for _, x := range all {
		if settled[x.ID] > 0 {
			lines = append(lines, instruct.Lines(x)...)
		}
	}
	want, err := post.Apply(b, lines, false)
	if err != api.OK || !slices.Equal(last, want) {
		t.Fatalf("%v became %v, not %v", b, last, want)
	}
}

// P8.3: what fails today is done when there is cover, and not again.
func TestTriedAgain(t *testing.T) {
	b := api.Book{line("ann", "cash", "5"), line("bob", "x", "2")}
	l := []api.Instr{owe(4, "bob", "ann", "x", "3", "6")}
	check(t, b, l, 3, outcome{book: b, stay: l})
	// The asset alone, and the cash alone, are not enough: then nothing of it is posted.
	b, _ = book.Add(b, line("bob", "x", "1"))
	check(t, b, l, 4, outcome{book: b, stay: l})
	b, _ = book.Add(b, line("bob", "x", "-1"))
	b, _ = book.Add(b, line("ann", "cash", "1"))
	check(t, b, l, 5, outcome{book: b, stay: l})
	b, _ = book.Add(b, line("bob", "x", "1"))
	after := api.Book{line("ann", "x", "3"), line("bob", "cash", "6")}
	check(t, b, l, 6, outcome{book: after, done: []int{4}})
	check(t, after, nil, 7, outcome{book: after})
	// One that came too late for another one ahead of it is there for it on the next run.
	b = api.Book{line("bob", "x", "2")}
	l = []api.Instr{owe(1, "ann", "cid", "x", "2", "0"), owe(2, "bob", "ann", "x", "2", "0")}
	check(t, b, l, 3, outcome{book: api.Book{line("ann", "x", "2")}, stay: l[:1], done: []int{2}})
	check(t, api.Book{line("ann", "x", "2")}, l[:1], 3, outcome{book: api.Book{line("cid", "x", "2")}, done: []int{1}})
}

// R4: what is answered, and what it was answered of, may be written into without the other one changing, whatever room lies behind it.
func TestNothingIsShared(t *testing.T) {
	b := api.Book{line("ann", "cash", "10"), line("bob", "x", "4")}
	l := []api.Instr{owe(1, "bob", "ann", "x", "5", "0"), owe(2, "bob", "ann", "x", "2", "7"), due(owe(3, "ann", "bob", "x", "1", "0"), 9)}
	for _, day := range []int{0, 3, 9} {
		roomyBook := append(make(api.Book, 0, 50), b...)
		roomyList := append(make([]api.Instr, 0, 50), l...)
		got := run(t, roomyBook, roomyList, day)
		if roomyBook[:len(b)+1][len(b)] != (api.Line{}) || roomyList[:len(l)+1][len(l)] != (api.Instr{}) {
			t.Errorf("on day %d Run wrote behind its arguments", day)
		}
		want := outcome{slices.Clone(got.book), slices.Clone(got.stay), slices.Clone(got.done), got.err}
		clear(roomyBook)
		clear(roomyList)
		if !got.same(want) {
			t.Errorf("on day %d Run shares its arguments", day)
		}
		roomyBook, roomyList = append(roomyBook[:0], b...), append(roomyList[:0], l...)
		got = run(t, roomyBook, roomyList, day)
		clear(got.book)
		clear(got.stay)
		clear(got.done)
		if !slices.Equal(roomyBook, b) || !slices.Equal(roomyList, l) {
			t.Errorf("on day %d Run shares its answers", day)
		}
	}
	lines := instruct.Lines(l[1])
	clear(lines)
	if got := instruct.Lines(l[1]); len(got) != 4 || got[0] != line("bob", "x", "-2") {
		t.Errorf("Lines, again: %v", got)
	}
}

// R5: an empty list and none are the same.
func TestEmptyLists(t *testing.T) {
	b := api.Book{line("ann", "cash", "10"), line("bob", "x", "4")}
	for _, l := range [][]api.Instr{nil, {}, make([]api.Instr, 0, 5), sample()[:0]} {
		for _, day := range []int{math.MinInt, 0, 1, math.MaxInt} {
			check(t, b, l, day, outcome{book: b})
			for _, none := range []api.Book{nil, {}, make(api.Book, 0, 5), b[:0]} {
				check(t, none, l, day, outcome{})
				check(t, none, []api.Instr{owe(1, "!issuer", "ann", "x", "1", "0")}, 3, outcome{book: api.Book{line("!issuer", "x", "-1"), line("ann", "x", "1")}, done: []int{1}})
			}
		}
	}
}

// R1 and P1: many instructions on a book of many lines come to an end before long.
func TestManyOnes(t *testing.T) {
	many := 20000
	var b api.Book
	var l []api.Instr
	for i := range many {
		b = append(b, line("a"+strconv.Itoa(many+i), "x", strconv.Itoa(1+i%2)))
		l = append(l, owe(i+1, "a"+strconv.Itoa(many+i), "zz", "x", "2", "0"))
	}
	got := run(t, b, l, 3)
	if got.err != api.OK || len(got.done) != many/2 || len(got.stay) != many/2 || len(got.book) != many/2+1 || got.book[many/2] != line("zz", "x", strconv.Itoa(many)) {
		t.Errorf("many: %d, %d of them done", got.err, len(got.done))
	}
	assets := api.Book{}
	for i := range many {
		assets = append(assets, line("ann", "a"+strconv.Itoa(many+i), "1"))
		l[i] = owe(i+1, "ann", "bob", "a"+strconv.Itoa(many+i), "1", "0")
	}
	if got := run(t, assets, l, 3); len(got.done) != many || len(got.book) != many || got.book[0] != line("bob", "a"+strconv.Itoa(many), "1") {
		t.Errorf("many assets: %d, %d of them done", got.err, len(got.done))
	}
}

// R1, P1 and P2: long numbers and names come to an end, and are exact.
func TestLongOnes(t *testing.T) {
	nines := strings.Repeat("9", 5000)
	b := api.Book{line("bob", "x", nines)}
	check(t, b, []api.Instr{owe(1, "bob", "ann", "x", "1"+strings.Repeat("0", 5000), "0"), owe(2, "bob", "ann", "x", nines, "0")}, 3, outcome{
		book: api.Book{line("ann", "x", nines)}, stay: []api.Instr{owe(1, "bob", "ann", "x", "1"+strings.Repeat("0", 5000), "0")}, done: []int{2},
	})
	check(t, b, []api.Instr{owe(1, "bob", "ann", "x", "1/"+nines, "0")}, 3, posted(t, b, []api.Instr{owe(1, "bob", "ann", "x", "1/"+nines, "0")}, 3))
	huge := strings.Repeat("a", 1<<20)
	check(t, b, []api.Instr{owe(1, "bob", huge, "x", "1", "0")}, 3, outcome{err: api.ErrArg})
	check(t, api.Book{line("bob", huge, "1")}, nil, 3, outcome{err: api.ErrArg})
	if instruct.May([]api.Instr{owe(1, "bob", "ann", huge, "1", "0")}) || instruct.Lines(owe(1, huge, "ann", "x", "1", "0")) != nil {
		t.Error("a long name")
	}
	// Exact: what is missing is no more than a bit of the last share.
	third := api.Book{line("bob", "x", "1/3")}
	wants := "33333333333333333333333333333333334/100000000000000000000000000000000000"
	check(t, third, []api.Instr{owe(1, "bob", "ann", "x", wants, "0")}, 3, outcome{book: third, stay: []api.Instr{owe(1, "bob", "ann", "x", wants, "0")}})
}

// P1: instructions whose denominators share nothing come to an end before long.
func TestManyDenominators(t *testing.T) {
	var l []api.Instr
	for i := range 150 {
		l = append(l, owe(i+1, "!issuer", "ann", "x", "1/"+strconv.Itoa(1000003+2*i), "0"))
	}
	got := run(t, nil, l, 3)
	sum := new(big.Rat)
	for _, x := range l {
		sum.Add(sum, number(t, x.Q))
	}
	if len(got.done) != len(l) || book.Get(got.book, "ann", "x") != num(sum.String()) || book.Total(got.book, "x") != num("0") {
		t.Errorf("of many denominators: %v", got)
	}
}

// R3: what was asked before is not kept.
func TestAnswersAgain(t *testing.T) {
	b := api.Book{line("bob", "x", "2")}
	l := []api.Instr{owe(1, "bob", "ann", "x", "2", "0"), owe(2, "bob", "ann", "x", "1", "0")}
	for range 3 {
		check(t, b, l, 3, outcome{book: api.Book{line("ann", "x", "2")}, stay: l[1:], done: []int{1}})
		check(t, notBooks()[0], l, 3, outcome{err: api.ErrArg})
		check(t, b, wrongLists()[0], 3, outcome{err: api.ErrArg})
		check(t, b, l, 2, outcome{book: b, stay: l})
	}
}
