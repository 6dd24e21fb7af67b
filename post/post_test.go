package post_test

import (
	"math/big"
	"math/rand"
	"slices"
	"strconv"
	"strings"
	"testing"

	"debenture/api"
	"debenture/book"
	"debenture/post"
)

// of answers the Rat of the library's number.
func of(x *big.Rat) api.Rat {
	return api.Rat{Num: x.Num().String(), Den: x.Denom().String()}
}

// number answers the library's number of a Rat, which has to stand in its one form.
func number(t *testing.T, x api.Rat) *big.Rat {
	t.Helper()
	n, is := new(big.Rat).SetString(x.Num + "/" + x.Den)
	if !is || of(n) != x {
		t.Fatalf("%v is no Rat that may be", x)
	}
	return n
}

// line answers a line, its number from a text.
func line(acct, asset, q string) api.Line {
	x, is := new(big.Rat).SetString(q)
	if !is {
		panic(q)
	}
	return api.Line{Acct: acct, Asset: asset, Q: of(x)}
}

// move answers the lines by which q of the asset goes from an account to another one.
func move(from, to, asset, q string) []api.Line {
	l := []api.Line{line(from, asset, q), line(to, asset, q)}
	x, _ := new(big.Rat).SetString(q)
	l[0].Q = of(x.Neg(x))
	return l
}

// sample answers a book: accounts with several assets, assets of several accounts, above and below 0.
func sample() api.Book {
	return api.Book{
		line("!issuer", "cash", "-100"), line("!issuer", "x", "-12"),
		line("0", "x", "7/2"),
		line("ann", "!x", "1"), line("ann", "cash", "5/2"), line("ann", "x", "3"), line("ann", "xx", "1/3"),
		line("anna", "x", "4/3"),
		line("bob", "cash", "-7/3"), line("bob", "x", "5"),
		line("zzzzzzzzzzzzzzzzzzzz", "99999999999999999999", "1/100"), line("zzzzzzzzzzzzzzzzzzzz", "x", "-3"),
	}
}

// postings answers lines that are balanced, of many kinds.
func postings() [][]api.Line {
	return [][]api.Line{
		nil, {}, make([]api.Line, 0, 5),
		{line("ann", "x", "0")}, {line("nobody", "w", "0")}, {line("ann", "x", "0"), line("!", "cash", "0"), line("ann", "x", "0")},
		move("!issuer", "ann", "x", "5"), move("ann", "!issuer", "x", "1"), move("bob", "ann", "x", "5"), move("ann", "cid", "cash", "5/2"),
		move("ann", "ann", "x", "100"), move("cid", "cid", "y", "1/7"), move("!round", "!issuer", "cash", "1/3"),
		move("!", "0", "x", "100000000000000000000000000000000001"), move("!issuer", strings.Repeat("z", 20), strings.Repeat("9", 20), "1"),
		{line("ann", "x", "-1/2"), line("bob", "x", "-1/3"), line("!round", "x", "5/6")},
		{line("!", "x", "1/2"), line("ann", "x", "-1"), line("!", "x", "1/2")},
		{line("ann", "x", "-1"), line("!a", "cash", "-2/3"), line("bob", "x", "1"), line("bob", "cash", "2/3")},
		{line("!a", "x", "1"), line("!a", "y", "-1"), line("!b", "y", "1"), line("!b", "x", "-1")},
		{line("ann", "x", "2"), line("ann", "x", "3"), line("ann", "x", "-1"), line("!b", "x", "-4")},
		{line("!x", "!x", "-7"), line("x", "!x", "7"), line("!x", "x", "4"), line("!b", "x", "-4"), line("x", "xx", "0")},
		{line("a", "x", "1000000000000000000000000000000"), line("!b", "x", "-999999999999999999999999999999"), line("!c", "x", "-1")},
	}
}

// unbalanced answers lines with names and numbers that may be, of which not each asset is 0 together.
func unbalanced() [][]api.Line {
	out := [][]api.Line{
		{line("ann", "x", "1")}, {line("!issuer", "cash", "-1")}, {line("ann", "x", "1/1000000000000000000000000000000")},
		{line("ann", "x", "1"), line("bob", "y", "-1")}, {line("ann", "x", "1"), line("ann", "xx", "-1")}, {line("ann", "x", "1"), line("ann", "!x", "-1")}, {line("x", "ann", "1"), line("ann", "x", "-1")},
		{line("ann", "x", "1"), line("bob", "x", "1")}, {line("ann", "x", "-1"), line("bob", "x", "-1")}, {line("ann", "x", "2"), line("bob", "x", "-1")}, {line("ann", "x", "1"), line("bob", "x", "-2")},
		{line("ann", "x", "1/2"), line("bob", "x", "-1/3")}, {line("ann", "x", "1/2"), line("bob", "x", "-2")}, {line("ann", "x", "1/3"), line("bob", "x", "1/3"), line("cid", "x", "-1/3")},
		{line("ann", "x", "1000000000000000000000000000000"), line("!b", "x", "-999999999999999999999999999999")},
		{line("ann", "x", "0"), line("ann", "y", "1")},
		{line("ann", "x", "1"), line("bob", "x", "-1"), line("ann", "y", "1"), line("bob", "y", "1"), line("ann", "z", "2"), line("bob", "z", "-2")},
	}
	for _, l := range postings() {
		for _, more := range []api.Line{line("ann", "x", "1"), line("!round", "x", "-1/3"), line("!issuer", "cash", "1"), line("new", "new", "-1")} {
			out = append(out, slices.Concat(l, []api.Line{more}), slices.Concat([]api.Line{more}, l))
		}
		for i := range l {
			if l[i].Q.Num != "0" {
				out = append(out, slices.Delete(slices.Clone(l), i, i+1))
			}
		}
	}
	return out
}

// notNames answers texts that are no names.
func notNames() []string {
	return []string{
		"", strings.Repeat("a", 21), "!" + strings.Repeat("a", 20), strings.Repeat("a", 3000), "!!", "a!", "!a!", "A", "aB", "!A", "-", "a-b", "_", ".", " ", "a b", " a", "a ", "a\n", "\x00", "a\x00", "/", ":", "`", "{", "@", "[", "\xff", "a\xff", "\u00e4", "\u0661",
	}
}

// notRats answers Rats that may not be.
func notRats() []api.Rat {
	return []api.Rat{
		{}, {Num: "1"}, {Den: "1"}, {Num: "0"}, {Num: "0", Den: "0"}, {Num: "1", Den: "0"}, {Num: "-1", Den: "0"}, {Num: "0", Den: "2"}, {Num: "-0", Den: "1"}, {Num: "1", Den: "-1"}, {Num: "-1", Den: "-2"},
		{Num: "2", Den: "2"}, {Num: "-2", Den: "2"}, {Num: "2", Den: "4"}, {Num: "-6", Den: "9"}, {Num: "01", Den: "1"}, {Num: "1", Den: "01"}, {Num: "+1", Den: "1"}, {Num: "1", Den: "+1"}, {Num: "1.5", Den: "1"}, {Num: "a", Den: "1"}, {Num: "1", Den: "a"}, {Num: " 1", Den: "1"},
		{Num: strings.Repeat("3", 3000), Den: strings.Repeat("7", 3000)},
	}
}

// wrongLines answers postings with a line whose names are none, or whose number may not be: all that can be summed up is 0.
func wrongLines() [][]api.Line {
	var out [][]api.Line
	with := func(l ...api.Line) {
		good := move("!issuer", "ann", "x", "5")
		out = append(out, l, slices.Concat(l, good), slices.Concat(good, l), slices.Concat(good[:1], l, good[1:]))
	}
	for _, name := range notNames() {
		with(line(name, "x", "0"))
		with(line("ann", name, "0"))
		with(line(name, name, "0"))
		with(move(name, "ann", "x", "1")...)
		with(move("ann", name, "x", "1")...)
		with(move("ann", "bob", name, "1")...)
	}
	for _, x := range notRats() {
		with(api.Line{Acct: "ann", Asset: "x", Q: x})
		with(api.Line{Acct: "!new", Asset: "new", Q: x})
		with(line("ann", "x", "1"), line("bob", "x", "-1"), api.Line{Acct: "cid", Asset: "x", Q: x})
	}
	with(api.Line{Acct: "ann", Asset: "x", Q: api.Rat{Num: "2", Den: "2"}}, line("bob", "x", "-1"))
	with(api.Line{Acct: "ann", Asset: "x", Q: api.Rat{Num: "2", Den: "4"}}, api.Line{Acct: "bob", Asset: "x", Q: api.Rat{Num: "-2", Den: "4"}})
	with(api.Line{})
	return out
}

// notBooks answers books that may not be.
func notBooks() []api.Book {
	good := sample()
	swapped := sample()
	swapped[4], swapped[5] = swapped[5], swapped[4]
	reversed := sample()
	slices.Reverse(reversed)
	out := []api.Book{
		{{}}, swapped, reversed, append(sample(), good[0]), slices.Insert(sample(), 3, good[3]), append(sample(), line("~", "x", "1")),
		{line("ann", "x", "1"), line("ann", "x", "-1")}, {line("bob", "x", "1"), line("ann", "x", "1")}, {line("ann", "x", "0")},
	}
	for _, x := range notRats() {
		out = append(out, api.Book{{Acct: "ann", Asset: "x", Q: x}}, append(sample(), api.Line{Acct: "zzzzzzzzzzzzzzzzzzzz", Asset: "y", Q: x}))
	}
	for _, name := range notNames() {
		out = append(out, api.Book{line(name, "x", "1")}, api.Book{line("ann", name, "1")})
	}
	return out
}

// applied answers what Apply does, which has to leave its arguments as they were, and to answer nothing beside an error, and a book that may be beside none.
func applied(t *testing.T, b api.Book, l []api.Line, covered bool) (api.Book, api.Errno) {
	t.Helper()
	beforeBook, beforeLines := slices.Clone(b), slices.Clone(l)
	out, err := post.Apply(b, l, covered)
	if !slices.Equal(b, beforeBook) || !slices.Equal(l, beforeLines) {
		t.Fatalf("Apply(%v, %v, %t) leaves %v and %v", beforeBook, beforeLines, covered, b, l)
	}
	if err != api.OK && out != nil || err == api.OK && !book.May(out) {
		t.Fatalf("Apply(%v, %v, %t): %v, %d", b, l, covered, out, err)
	}
	return out, err
}

// checkRefused wants an error of Apply, and nothing beside it.
func checkRefused(t *testing.T, b api.Book, l []api.Line, covered bool, want api.Errno) {
	t.Helper()
	if out, err := applied(t, b, l, covered); out != nil || err != want {
		t.Errorf("Apply(%v, %v, %t): %v, %d, not %d", b, l, covered, out, err, want)
	}
}

// checkPosted wants a book of Apply.
func checkPosted(t *testing.T, b api.Book, l []api.Line, covered bool, want api.Book) {
	t.Helper()
	if out, err := applied(t, b, l, covered); err != api.OK || !slices.Equal(out, want) {
		t.Errorf("Apply(%v, %v, %t): %v, %d, not %v", b, l, covered, out, err, want)
	}
}

// key is an account and an asset.
type key struct{ acct, asset string }

// amounts answers by the library's means what the lines come to.
func amounts(t *testing.T, l []api.Line) map[key]*big.Rat {
	t.Helper()
	out := map[key]*big.Rat{}
	for _, line := range l {
		at := key{line.Acct, line.Asset}
		if out[at] == nil {
			out[at] = new(big.Rat)
		}
		out[at].Add(out[at], number(t, line.Q))
	}
	return out
}

// expected answers by the library's means what Apply of a book that may be and of balanced lines has to answer.
func expected(t *testing.T, b api.Book, l []api.Line, covered bool) (api.Book, api.Errno) {
	t.Helper()
	had, added, after := amounts(t, b), amounts(t, l), amounts(t, slices.Concat(b, l))
	for at := range added {
		before := had[at]
		if before == nil {
			before = new(big.Rat)
		}
		if covered && at.acct[0] != '!' && after[at].Sign() < 0 && after[at].Cmp(before) < 0 {
			return nil, api.ErrPostCover
		}
	}
	var out api.Book
	for at, q := range after {
		if q.Sign() != 0 {
			out = append(out, api.Line{Acct: at.acct, Asset: at.asset, Q: of(q)})
		}
	}
	slices.SortFunc(out, func(k, l api.Line) int {
		if k.Acct != l.Acct {
			return strings.Compare(k.Acct, l.Acct)
		}
		return strings.Compare(k.Asset, l.Asset)
	})
	return out, api.OK
}

// check holds Apply against the library, covered and not covered, and the totals ahead of it against those behind it.
func check(t *testing.T, b api.Book, l []api.Line) {
	t.Helper()
	for _, covered := range []bool{false, true} {
		want, wantErr := expected(t, b, l, covered)
		out, err := applied(t, b, l, covered)
		if err != wantErr || !slices.Equal(out, want) {
			t.Fatalf("Apply(%v, %v, %t): %v, %d, not %v, %d", b, l, covered, out, err, want, wantErr)
		}
		checked := map[string]bool{}
		for _, line := range slices.Concat(b, l) {
			if err == api.OK && !checked[line.Asset] && book.Total(out, line.Asset) != book.Total(b, line.Asset) {
				t.Fatalf("Apply(%v, %v, %t): of %s %v together", b, l, covered, line.Asset, book.Total(out, line.Asset))
			}
			checked[line.Asset] = true
		}
	}
}

// P7.1
func TestFree(t *testing.T) {
	for _, acct := range []string{"!", "!x", "!issuer", "!round", "!0", "!" + strings.Repeat("z", 19), api.Issuer, api.Rounding} {
		if !post.Free(acct) {
			t.Errorf("Free(%q) is false", acct)
		}
	}
	for _, acct := range []string{"", "x", "ann", "0", "x!", "ann!", "issuer", " !", "\x00!", "\"", "i!ssuer", strings.Repeat("a", 19) + "!", "\u00a1", strings.Repeat("a", 1<<20)} {
		if post.Free(acct) {
			t.Errorf("Free(%q)", acct)
		}
	}
}

// P7.1
func TestBalanced(t *testing.T) {
	for _, l := range postings() {
		if !post.Balanced(l) {
			t.Errorf("Balanced(%v) is false", l)
		}
	}
	for _, name := range []string{"a", "z", "0", "9", "!", "!a", "x", "cash", "!issuer", "007", strings.Repeat("a", 20), "!" + strings.Repeat("9", 19)} {
		if !post.Balanced(move(name, "ann", "x", "1")) || !post.Balanced(move("ann", "bob", name, "1/2")) || !post.Balanced([]api.Line{line(name, name, "0")}) {
			t.Errorf("Balanced of %q is false", name)
		}
	}
	for _, l := range unbalanced() {
		if post.Balanced(l) {
			t.Errorf("Balanced(%v)", l)
		}
	}
	for _, l := range wrongLines() {
		before := slices.Clone(l)
		if post.Balanced(l) {
			t.Errorf("Balanced(%v)", l)
		}
		if !slices.Equal(l, before) {
			t.Errorf("Balanced made %v of %v", l, before)
		}
	}
}

// P7.1: of many assets only one is off, whichever it is, however often one asks.
func TestBalancedOfManyAssets(t *testing.T) {
	var good []api.Line
	for i := range 40 {
		good = append(good, move("a"+strconv.Itoa(i%7), "b"+strconv.Itoa(i%3), "x"+strconv.Itoa(i), strconv.Itoa(i+1)+"/3")...)
	}
	for i := range good {
		off := slices.Clone(good)
		off[i].Q = api.Rat{Num: "1", Den: "7"}
		for range 3 {
			if !post.Balanced(good) || post.Balanced(off) {
				t.Fatalf("with line %d off", i)
			}
		}
	}
}

// P7.2
func TestApply(t *testing.T) {
	b := api.Book{line("ann", "cash", "2"), line("ann", "x", "3"), line("bob", "x", "-1/2")}
	for _, c := range []struct {
		l    []api.Line
		want api.Book
	}{
		{nil, b},
		{[]api.Line{line("ann", "x", "0"), line("cid", "w", "0")}, b},
		{move("ann", "ann", "x", "7"), b},
		{move("!issuer", "ann", "x", "1"), api.Book{line("!issuer", "x", "-1"), b[0], line("ann", "x", "4"), b[2]}},
		{move("ann", "bob", "x", "1/3"), api.Book{b[0], line("ann", "x", "8/3"), line("bob", "x", "-1/6")}},
		{move("ann", "bob", "x", "3"), api.Book{b[0], line("bob", "x", "5/2")}},
		{move("ann", "bob", "x", "1/2"), api.Book{b[0], line("ann", "x", "5/2")}},
		{move("ann", "bob", "cash", "2"), api.Book{b[1], line("bob", "cash", "2"), b[2]}},
		{move("ann", "cid", "cash", "1"), api.Book{line("ann", "cash", "1"), b[1], b[2], line("cid", "cash", "1")}},
		{move("!z", "an", "y", "1"), api.Book{line("!z", "y", "-1"), line("an", "y", "1"), b[0], b[1], b[2]}},
		{move("!z", "ann", "d", "1"), api.Book{line("!z", "d", "-1"), b[0], line("ann", "d", "1"), b[1], b[2]}},
		{slices.Concat(move("ann", "bob", "x", "4"), move("!round", "ann", "x", "2")), api.Book{line("!round", "x", "-2"), b[0], line("ann", "x", "1"), line("bob", "x", "7/2")}},
		{slices.Concat(move("ann", "bob", "x", "1"), move("bob", "ann", "cash", "0"), move("!issuer", "bob", "cash", "5")), api.Book{line("!issuer", "cash", "-5"), b[0], line("ann", "x", "2"), line("bob", "cash", "5"), line("bob", "x", "1/2")}},
	} {
		checkPosted(t, b, c.l, false, c.want)
		checkPosted(t, b, c.l, true, c.want)
	}
	checkPosted(t, nil, move("!issuer", "ann", "x", "5"), true, api.Book{line("!issuer", "x", "-5"), line("ann", "x", "5")})
	checkPosted(t, api.Book{line("ann", "x", "5")}, move("ann", "!issuer", "x", "5"), true, api.Book{line("!issuer", "x", "5")})
	checkPosted(t, api.Book{line("!a", "x", "5"), line("!b", "x", "-5")}, move("!a", "!b", "x", "5"), true, nil)
	for _, l := range postings() {
		check(t, nil, l)
		check(t, sample(), l)
		check(t, b, l)
	}
}

// P7.2
func TestApplyOfUnbalancedLines(t *testing.T) {
	for _, covered := range []bool{false, true} {
		for _, l := range slices.Concat(unbalanced(), wrongLines()) {
			checkRefused(t, nil, l, covered, api.ErrPostBalance)
			checkRefused(t, sample(), l, covered, api.ErrPostBalance)
		}
		// Not covered, too: the error that is named first.
		checkRefused(t, sample(), append(move("ann", "bob", "x", "99"), line("ann", "x", "1")), covered, api.ErrPostBalance)
		checkRefused(t, sample(), append(move("ann", "bob", "x", "99"), line("ann", "X", "0")), covered, api.ErrPostBalance)
	}
}

// P7.2
func TestApplyToWrongBooks(t *testing.T) {
	for _, covered := range []bool{false, true} {
		for _, b := range notBooks() {
			for _, l := range postings() {
				checkRefused(t, b, l, covered, api.ErrArg)
			}
			checkRefused(t, b, move("ann", "bob", "x", "99"), covered, api.ErrArg)
			checkRefused(t, b, []api.Line{line("ann", "x", "1")}, covered, api.ErrArg)
			checkRefused(t, b, []api.Line{{}}, covered, api.ErrArg)
		}
	}
}

// P7.2: what an account had, and what is posted to it, as one line or as several.
func TestCover(t *testing.T) {
	for _, acct := range []string{"!", "!issuer", "0", "ann", "zz"} {
		for had := int64(-4); had <= 4; had++ {
			for change := int64(-5); change <= 5; change++ {
				for _, parts := range [][]int64{{0}, {3, -3}, {-20, 20}, {20, -20}, {1, 1, 1}} {
					checkCover(t, acct, big.NewRat(had, 2), big.NewRat(change, 2), parts)
				}
			}
		}
	}
}

// checkCover posts the change to the account as several lines, against one that is Free, amid others of the book.
func checkCover(t *testing.T, acct string, had, change *big.Rat, parts []int64) {
	t.Helper()
	rest := new(big.Rat).Set(change)
	l := []api.Line{{Acct: "!other", Asset: "x", Q: of(new(big.Rat).Neg(change))}}
	for _, part := range parts {
		rest.Sub(rest, big.NewRat(part, 1))
		l = append(l, api.Line{Acct: acct, Asset: "x", Q: of(big.NewRat(part, 1))})
	}
	l = append(l, api.Line{Acct: acct, Asset: "x", Q: of(rest)})
	var b api.Book
	if had.Sign() != 0 {
		b = api.Book{{Acct: acct, Asset: "x", Q: of(had)}}
	}
	after := new(big.Rat).Add(had, change)
	want := api.OK
	if acct[0] != '!' && after.Sign() < 0 && change.Sign() < 0 {
		want = api.ErrPostCover
	}
	if _, err := applied(t, b, l, true); err != want {
		t.Fatalf("Apply(%v, %v, true): %d, not %d", b, l, err, want)
	}
	if _, err := applied(t, b, l, false); err != api.OK {
		t.Fatalf("Apply(%v, %v, false): %d", b, l, err)
	}
	check(t, b, l)
	for _, other := range sample() {
		if other.Acct != acct {
			b, _ = book.Add(b, other)
		}
	}
	check(t, b, l)
}

// P7.2: which account, and which of its assets, counts.
func TestCoverOfWhich(t *testing.T) {
	b := sample()
	for _, c := range []struct {
		l    []api.Line
		want api.Errno
	}{
		{move("ann", "bob", "x", "3"), api.OK},
		{move("ann", "bob", "x", "3.01"), api.ErrPostCover},
		{move("ann", "bob", "w", "1"), api.ErrPostCover},
		{move("nobody", "bob", "x", "1/1000"), api.ErrPostCover},
		{move("anna", "bob", "x", "3"), api.ErrPostCover},
		{move("ann", "bob", "xx", "3"), api.ErrPostCover},
		{move("ann", "bob", "!x", "3"), api.ErrPostCover},
		{move("!issuer", "bob", "x", "1000"), api.OK},
		{move("!new", "bob", "new", "1000"), api.OK},
		// bob has less than 0 of cash: of x he may give.
		{move("bob", "ann", "x", "5"), api.OK},
		{move("bob", "ann", "cash", "1"), api.ErrPostCover},
		{move("ann", "bob", "cash", "1"), api.OK},
		{move("bob", "ann", "cash", "0"), api.OK},
		{move("bob", "bob", "cash", "9"), api.OK},
		{append(move("bob", "ann", "cash", "1"), move("ann", "bob", "cash", "1")...), api.OK},
		{append(move("bob", "ann", "cash", "2"), move("ann", "bob", "cash", "1")...), api.ErrPostCover},
		{append(move("bob", "ann", "cash", "1"), move("ann", "bob", "cash", "2")...), api.OK},
		// Lines that are covered by others of the same posting, ahead of them or behind them.
		{append(move("ann", "cid", "x", "8"), move("bob", "ann", "x", "5")...), api.OK},
		{append(move("bob", "ann", "x", "5"), move("ann", "cid", "x", "8")...), api.OK},
		{append(move("bob", "ann", "x", "5"), move("ann", "cid", "x", "9")...), api.ErrPostCover},
		{append(move("bob", "ann", "x", "6"), move("ann", "cid", "x", "9")...), api.ErrPostCover},
		// One of several is not covered, be it the first or the last one.
		{append(move("0", "!issuer", "x", "4"), move("bob", "ann", "x", "5")...), api.ErrPostCover},
		{append(move("bob", "ann", "x", "5"), move("zzzzzzzzzzzzzzzzzzzz", "!issuer", "x", "1")...), api.ErrPostCover},
		{append(move("bob", "ann", "x", "5"), move("!issuer", "zzzzzzzzzzzzzzzzzzzz", "x", "1")...), api.OK},
		{append(move("ann", "bob", "x", "1"), move("bob", "ann", "cash", "3")...), api.ErrPostCover},
	} {
		if _, err := applied(t, b, c.l, true); err != c.want {
			t.Errorf("Apply(%v): %d, not %d", c.l, err, c.want)
		}
		if _, err := applied(t, b, c.l, false); err != api.OK {
			t.Errorf("Apply(%v), not covered: %d", c.l, err)
		}
		check(t, b, c.l)
	}
	has := api.Book{line("ann", "x", "2")}
	checkRefused(t, has, move("ann", "bob", "x", "3"), true, api.ErrPostCover)
	checkPosted(t, has, move("ann", "bob", "x", "3"), false, api.Book{line("ann", "x", "-1"), line("bob", "x", "3")})
}

// randomPosting answers balanced lines of few accounts and assets, so that many come together.
func randomPosting(t *testing.T, r *rand.Rand) []api.Line {
	t.Helper()
	accts := []string{"!", "!issuer", "0", "ann", "anna", "bob", "z"}
	assets := []string{"!x", "cash", "x", "xx"}
	var l []api.Line
	for range r.Intn(12) {
		l = append(l, api.Line{Acct: accts[r.Intn(len(accts))], Asset: assets[r.Intn(len(assets))], Q: of(big.NewRat(int64(r.Intn(9)-4), int64(1+r.Intn(3))))})
	}
	sums := map[string]*big.Rat{}
	for _, line := range l {
		if sums[line.Asset] == nil {
			sums[line.Asset] = new(big.Rat)
		}
		sums[line.Asset].Add(sums[line.Asset], number(t, line.Q))
	}
	for _, asset := range assets {
		if sums[asset] != nil {
			l = append(l, api.Line{Acct: accts[r.Intn(len(accts))], Asset: asset, Q: of(sums[asset].Neg(sums[asset]))})
		}
	}
	r.Shuffle(len(l), func(i, j int) { l[i], l[j] = l[j], l[i] })
	return l
}

// P7.1 to P7.3: posting behind posting, against the library; all of it or nothing, and the totals stay.
func TestManyPostings(t *testing.T) {
	r := rand.New(rand.NewSource(1))
	counts := map[api.Errno]int{}
	for range 40 {
		var b api.Book
		for range 40 {
			l := randomPosting(t, r)
			if !post.Balanced(l) {
				t.Fatalf("Balanced(%v) is false", l)
			}
			check(t, b, l)
			next, err := applied(t, b, l, r.Intn(3) > 0)
			counts[err]++
			if err == api.OK {
				b = next
			}
			for _, asset := range []string{"!x", "cash", "x", "xx"} {
				if got := book.Total(b, asset); got != (api.Rat{Num: "0", Den: "1"}) {
					t.Fatalf("of %s %v together", asset, got)
				}
			}
			if len(l) > 0 {
				off := slices.Clone(l)
				i := r.Intn(len(off))
				off[i].Q = of(new(big.Rat).Add(number(t, off[i].Q), big.NewRat(1, 5)))
				checkRefused(t, b, off, r.Intn(2) > 0, api.ErrPostBalance)
			}
		}
	}
	if counts[api.OK] < 100 || counts[api.ErrPostCover] < 100 {
		t.Errorf("too few of a kind: %v", counts)
	}
}

// P7.3: what is posted, and posted again the other way round, leaves the book as it was; the totals stay, also where they are not 0.
func TestPostedAndTakenAgain(t *testing.T) {
	b := sample()
	for _, l := range postings() {
		back := slices.Clone(l)
		for i := range back {
			back[i].Q = of(new(big.Rat).Neg(number(t, back[i].Q)))
		}
		there, err := applied(t, b, l, false)
		if err != api.OK {
			t.Fatalf("Apply of %v: %d", l, err)
		}
		for _, asset := range []string{"x", "cash", "xx", "!x", "new", "99999999999999999999"} {
			if book.Total(there, asset) != book.Total(b, asset) {
				t.Errorf("Apply of %v: of %s %v together", l, asset, book.Total(there, asset))
			}
		}
		checkPosted(t, there, back, false, b)
		slices.Reverse(l)
		checkPosted(t, b, l, false, there)
	}
}

// R4: what is answered, and what it was answered of, may be written into without the other one changing, whatever room lies behind it.
func TestNothingIsShared(t *testing.T) {
	for _, l := range postings() {
		roomy := append(make(api.Book, 0, 100), sample()...)
		lines := append(make([]api.Line, 0, 100), l...)
		got, err := applied(t, roomy, lines, false)
		if err != api.OK {
			t.Fatalf("Apply of %v: %d", l, err)
		}
		if roomy[:len(roomy)+1][len(roomy)] != (api.Line{}) || lines[:len(lines)+1][len(lines)] != (api.Line{}) {
			t.Errorf("Apply of %v wrote behind its arguments", l)
		}
		want := slices.Clone(got)
		clear(roomy)
		clear(lines)
		if !slices.Equal(got, want) {
			t.Errorf("Apply of %v shares its arguments", l)
		}
		roomy, lines = append(roomy[:0], sample()...), append(lines[:0], l...)
		got, _ = applied(t, roomy, lines, true)
		clear(got)
		got, _ = applied(t, roomy, lines, false)
		clear(got)
		if !slices.Equal(roomy, sample()) || !slices.Equal(lines, l) {
			t.Errorf("Apply of %v shares its answer", l)
		}
		fresh, _ := applied(t, nil, lines, false)
		clear(fresh)
		if !slices.Equal(lines, l) {
			t.Errorf("Apply of %v to nothing shares its answer", l)
		}
	}
}

// R5: an empty list and none are the same.
func TestEmptyLists(t *testing.T) {
	for _, b := range []api.Book{nil, {}, make(api.Book, 0, 5), sample()[:0]} {
		for _, l := range [][]api.Line{nil, {}, make([]api.Line, 0, 5), sample()[:0]} {
			for _, covered := range []bool{false, true} {
				checkPosted(t, b, l, covered, nil)
				checkPosted(t, sample(), l, covered, sample())
			}
		}
		checkPosted(t, b, move("!i", "a", "x", "1"), true, api.Book{line("!i", "x", "-1"), line("a", "x", "1")})
	}
}

// R1, P1 and P2: many lines, and long numbers and names, come to an end, and are exact.
func TestLongOnes(t *testing.T) {
	many := 10000
	var l []api.Line
	for i := range many {
		l = append(l, move("!issuer", "a"+strconv.Itoa(many+i), "x", strconv.Itoa(1+i))...)
	}
	b, err := applied(t, nil, l, true)
	if err != api.OK || len(b) != many+1 || book.Total(b, "x").Num != "0" || b[0].Q.Num != "-50005000" {
		t.Fatalf("many lines: %d, %d of them", err, len(b))
	}
	for i := range l {
		l[i].Q = of(new(big.Rat).Neg(number(t, l[i].Q)))
	}
	checkPosted(t, b, l, true, nil)
	var assets []api.Line
	for i := range many {
		assets = append(assets, move("!issuer", "ann", "x"+strconv.Itoa(i), "1/3")...)
	}
	if b, err := applied(t, nil, assets, true); err != api.OK || len(b) != 2*many {
		t.Errorf("many assets: %d, %d lines", err, len(b))
	}
	nines := strings.Repeat("9", 10000)
	long := []api.Line{line("ann", "x", nines), line("ann", "x", "1"), line("!a", "x", "-1"+strings.Repeat("0", 10000))}
	checkPosted(t, nil, long, true, api.Book{long[2], line("ann", "x", "1"+strings.Repeat("0", 10000))})
	long[1].Q.Num = "2"
	checkRefused(t, nil, long, true, api.ErrPostBalance)
	huge := strings.Repeat("a", 1<<20)
	checkRefused(t, sample(), move(huge, "ann", "x", "1"), true, api.ErrPostBalance)
	checkRefused(t, api.Book{line("ann", huge, "1")}, nil, true, api.ErrArg)
}

// P1: sums of many denominators that share nothing end before long, be they of one account or of many.
func TestManyDenominators(t *testing.T) {
	var one, several []api.Line
	sum := new(big.Rat)
	for i := range 500 {
		q := "1/" + strconv.Itoa(1000003+2*i)
		one = append(one, line("ann", "x", q))
		several = append(several, line("a"+strconv.Itoa(1000+i), "x", q))
		sum.Add(sum, number(t, one[i].Q))
	}
	minus := api.Line{Acct: "!a", Asset: "x", Q: of(new(big.Rat).Neg(sum))}
	checkPosted(t, nil, append(one, minus), true, api.Book{minus, {Acct: "ann", Asset: "x", Q: of(sum)}})
	checkPosted(t, nil, append(several, minus), true, append(api.Book{minus}, several...))
}

// R3: what was asked before is not kept.
func TestAnswersAgain(t *testing.T) {
	for range 3 {
		checkRefused(t, sample(), move("ann", "bob", "x", "4"), true, api.ErrPostCover)
		checkRefused(t, sample(), move("ann", "bob", "x", "4")[:1], true, api.ErrPostBalance)
		checkRefused(t, notBooks()[0], nil, true, api.ErrArg)
		checkPosted(t, sample(), nil, true, sample())
	}
}
