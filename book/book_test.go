package book_test

import (
	"math/big"
	"math/rand"
	"slices"
	"strconv"
	"strings"
	"testing"

	"debenture/api"
	"debenture/book"
)

const alphabet = "abcdefghijklmnopqrstuvwxyz0123456789"

// of answers the Rat of the library's number.
func of(x *big.Rat) api.Rat {
	return api.Rat{Num: x.Num().String(), Den: x.Denom().String()}
}

// number answers the library's number of a Rat, which has to stand in its one form.
func number(t *testing.T, x api.Rat) *big.Rat {
	t.Helper()
	n, is := new(big.Rat).SetString(x.Num + "/" + x.Den)
	if !is || of(n) != x {
		t.Fatalf("%v is no Rat that may be", x)
	}
	return n
}

// line answers a line, its number from a text.
func line(acct, asset, q string) api.Line {
	x, is := new(big.Rat).SetString(q)
	if !is {
		panic(q)
	}
	return api.Line{Acct: acct, Asset: asset, Q: of(x)}
}

// sample answers a book: accounts with several assets, assets of several accounts, and names and numbers of many kinds.
func sample() api.Book {
	return api.Book{
		line("!", "x", "-1/2"),
		line("!issuer", "cash", "-100"), line("!issuer", "x", "-12"), line("!issuer", "y", "1/3"),
		line("0", "x", "7/2"),
		line("ann", "!x", "1"), line("ann", "cash", "5/2"), line("ann", "x", "3"), line("ann", "xx", "1/3"), line("ann", "y", "-1/3"),
		line("anna", "x", "4/3"),
		line("bob", "cash", "-7/3"), line("bob", "x", "5"), line("bob", "z", "10000000000000000000000000"),
		line("zzzzzzzzzzzzzzzzzzzz", "99999999999999999999", "1/100"), line("zzzzzzzzzzzzzzzzzzzz", "x", "-3"),
	}
}

// names answers texts that are names.
func names() []string {
	return []string{
		"a", "z", "m", "0", "9", "!", "!a", "!0", "x", "cash", "!issuer", "!round", "a0", "0a", "00", "007", "zz9", "abcxyz0189",
		strings.Repeat("a", 20), strings.Repeat("0", 20), strings.Repeat("z", 19), "!" + strings.Repeat("9", 19), "!" + strings.Repeat("z", 18), alphabet[:20],
	}
}

// notNames answers texts that are none.
func notNames() []string {
	return []string{
		"", strings.Repeat("a", 21), "!" + strings.Repeat("a", 20), alphabet[:21], strings.Repeat("0", 22), strings.Repeat("a", 3000), strings.Repeat("!", 3000),
		"!!", "!!a", "a!", "a!b", "!a!", "0!", strings.Repeat("a", 19) + "!", strings.Repeat("a", 20) + "!",
		"A", "Z", "aB", "!A", "A!", "-", "-a", "a-", "a-b", "_", "a_b", ".", "a.b", " ", "a b", " a", "a ", "a\n", "\n", "\t", "\x00", "a\x00", "/", ":", "`", "{", "@", "[", "a/", "a:", "a`", "a{", "\"", "a\"",
		"\xff", "a\xff", "\xe4", "\u00e4", "\u0661", "a\u0301", "\uff41", "\u00df",
	}
}

// notRats answers Rats that may not be.
func notRats() []api.Rat {
	return []api.Rat{
		{}, {Num: "1"}, {Den: "1"}, {Num: "0"}, {Num: "0", Den: "0"}, {Num: "1", Den: "0"}, {Num: "-1", Den: "0"}, {Num: "0", Den: "2"}, {Num: "-0", Den: "1"}, {Num: "1", Den: "-1"}, {Num: "-1", Den: "-2"},
		{Num: "2", Den: "2"}, {Num: "2", Den: "4"}, {Num: "-6", Den: "9"}, {Num: "01", Den: "1"}, {Num: "1", Den: "01"}, {Num: "+1", Den: "1"}, {Num: "1", Den: "+1"}, {Num: "1.5", Den: "1"}, {Num: "a", Den: "1"}, {Num: "1", Den: "a"}, {Num: " 1", Den: "1"},
		{Num: strings.Repeat("3", 3000), Den: strings.Repeat("7", 3000)},
	}
}

// notBooks answers books that may not be, each from one that may.
func notBooks() []api.Book {
	var out []api.Book
	good := sample()
	for i := range good {
		// Once more, beside itself and at the end, and with another number, too.
		other := good[i]
		other.Q = api.Rat{Num: "77", Den: "1"}
		out = append(out, slices.Insert(slices.Clone(good), i, good[i]), slices.Insert(slices.Clone(good), i, other), slices.Insert(slices.Clone(good), i+1, other))
		if i > 0 {
			swapped := slices.Clone(good)
			swapped[i-1], swapped[i] = swapped[i], swapped[i-1]
			out = append(out, swapped, append(slices.Clone(good), good[i-1]), slices.Insert(slices.Clone(good), 0, good[i]))
		}
	}
	for _, i := range []int{0, 6, len(good) - 1} {
		with := func(l api.Line) {
			bad := slices.Clone(good)
			bad[i] = l
			out = append(out, bad)
		}
		with(line(good[i].Acct, good[i].Asset, "0"))
		with(api.Line{})
		for _, x := range notRats() {
			with(api.Line{Acct: good[i].Acct, Asset: good[i].Asset, Q: x})
		}
	}
	for _, name := range notNames() {
		out = append(out, api.Book{line(name, "x", "1")}, api.Book{line("ann", name, "1")}, api.Book{line(name, name, "1")})
		ordered := append(sample(), line(name, "x", "1"), line("ann", name, "1"))
		slices.SortFunc(ordered, func(k, l api.Line) int {
			if k.Acct != l.Acct {
				return strings.Compare(k.Acct, l.Acct)
			}
			return strings.Compare(k.Asset, l.Asset)
		})
		out = append(out, ordered)
	}
	slices.Reverse(good)
	return append(out, good, api.Book{line("ann", "y", "1"), line("ann", "x", "1")}, api.Book{line("bob", "x", "1"), line("ann", "y", "1")}, api.Book{line("ann", "x", "1"), line("!issuer", "y", "1")}, api.Book{line("anna", "x", "1"), line("ann", "z", "1")}, api.Book{line("ann", "x", "1"), line("ann", "x", "-1")})
}

// added answers b with the line added, which has to may be, and to leave b as it was.
func added(t *testing.T, b api.Book, l api.Line) api.Book {
	t.Helper()
	before := slices.Clone(b)
	out, is := book.Add(b, l)
	if !is || !book.May(out) {
		t.Fatalf("Add(%v, %v): %v, %t", b, l, out, is)
	}
	if !slices.Equal(b, before) {
		t.Fatalf("Add(%v, %v) leaves %v", before, l, b)
	}
	return out
}

// P6.1
func TestName(t *testing.T) {
	for _, s := range names() {
		if !book.Name(s) {
			t.Errorf("Name(%q) is false", s)
		}
	}
	for _, s := range notNames() {
		if book.Name(s) {
			t.Errorf("Name(%q) is true", s)
		}
	}
}

// P6.1: every byte at every place of every length.
func TestNameByBytes(t *testing.T) {
	for length := 1; length <= 23; length++ {
		for place := range length {
			for c := range 256 {
				text := []byte(strings.Repeat("k", length))
				text[place] = byte(c)
				want := length <= 20 && (strings.IndexByte(alphabet, byte(c)) >= 0 || c == '!' && place == 0)
				if got := book.Name(string(text)); got != want {
					t.Errorf("Name(%q): %t", text, got)
				}
			}
		}
	}
}

// P6.1
func TestMay(t *testing.T) {
	good := sample()
	for i := range good {
		for j := i; j <= len(good); j++ {
			if !book.May(good[i:j]) {
				t.Errorf("May of lines %d to %d", i, j)
			}
		}
		if less := slices.Delete(slices.Clone(good), i, i+1); !book.May(less) {
			t.Errorf("May without line %d", i)
		}
	}
	for _, name := range names() {
		if !book.May(api.Book{line(name, "x", "-1/2")}) || !book.May(api.Book{line("ann", name, "3")}) || !book.May(api.Book{line(name, name, "1")}) {
			t.Errorf("May with %q", name)
		}
	}
	if !book.May(nil) || !book.May(api.Book{}) {
		t.Error("May of the empty book")
	}
	for _, b := range notBooks() {
		if book.May(b) {
			t.Errorf("May(%v)", b)
		}
	}
}

// P6.1
func TestGet(t *testing.T) {
	b := sample()
	have := map[[2]string]api.Rat{}
	for _, l := range b {
		have[[2]string{l.Acct, l.Asset}] = l.Q
	}
	zero := api.Rat{Num: "0", Den: "1"}
	texts := slices.Concat(names(), notNames(), []string{"ann", "ann0", "anna", "bob", "y", "z", "xx", "!x", "anm", "anz"})
	for _, l := range b {
		texts = append(texts, l.Acct, l.Asset)
	}
	for _, acct := range texts {
		for _, asset := range texts {
			want, there := have[[2]string{acct, asset}]
			if !there {
				want = zero
			}
			if got := book.Get(b, acct, asset); got != want {
				t.Fatalf("Get(%q, %q): %v, not %v", acct, asset, got, want)
			}
			if got := book.Get(nil, acct, asset); got != zero {
				t.Fatalf("Get of nothing: %v", got)
			}
		}
	}
	if got := book.Get(b, "ann", "x"); got != (api.Rat{Num: "3", Den: "1"}) {
		t.Errorf("ann's x: %v", got)
	}
}

// P6.1
func TestTotal(t *testing.T) {
	b := sample()
	for asset, want := range map[string]string{
		"cash": "-599/6", "x": "-8/3", "y": "0", "z": "10000000000000000000000000", "!x": "1", "xx": "1/3", "99999999999999999999": "1/100",
		"w": "0", "ann": "0", "": "0", "X": "0", "a b": "0", "!": "0", strings.Repeat("x", 21): "0",
	} {
		if got := book.Total(b, asset); got != line("", "", want).Q {
			t.Errorf("Total of %q: %v, not %s", asset, got, want)
		}
		if got := book.Total(nil, asset); got != (api.Rat{Num: "0", Den: "1"}) {
			t.Errorf("Total of %q of nothing: %v", asset, got)
		}
	}
}

// P6.1
func TestHolders(t *testing.T) {
	b := sample()
	for asset, want := range map[string][]int{
		"cash": {1, 6, 11}, "x": {0, 2, 4, 7, 10, 12, 15}, "y": {3, 9}, "z": {13}, "!x": {5}, "xx": {8}, "99999999999999999999": {14},
		"w": nil, "ann": nil, "": nil, "X": nil, "!": nil, strings.Repeat("x", 21): nil,
	} {
		var lines []api.Line
		for _, i := range want {
			lines = append(lines, b[i])
		}
		if got := book.Holders(b, asset); !slices.Equal(got, lines) {
			t.Errorf("Holders of %q: %v, not %v", asset, got, lines)
		}
		if got := book.Holders(nil, asset); len(got) != 0 {
			t.Errorf("Holders of %q of nothing: %v", asset, got)
		}
	}
}

// P6.1 and P6.2: of a book that may not be.
func TestWrongBooks(t *testing.T) {
	for _, b := range notBooks() {
		for _, asset := range []string{"x", "cash", "w", "", "a b"} {
			before := slices.Clone(b)
			if got := book.Get(b, "ann", asset); got != (api.Rat{}) {
				t.Errorf("Get(%v, ann, %q): %v", b, asset, got)
			}
			if got := book.Total(b, asset); got != (api.Rat{}) {
				t.Errorf("Total(%v, %q): %v", b, asset, got)
			}
			if got := book.Holders(b, asset); got != nil {
				t.Errorf("Holders(%v, %q): %v", b, asset, got)
			}
			for _, q := range []string{"1", "0", "-3"} {
				if got, is := book.Add(b, line("ann", asset, q)); got != nil || is {
					t.Errorf("Add(%v, %s of %q): %v, %t", b, q, asset, got, is)
				}
			}
			if !slices.Equal(b, before) {
				t.Errorf("%v became %v", before, b)
			}
		}
	}
}

// P6.2
func TestAdd(t *testing.T) {
	b := api.Book{line("ann", "cash", "2"), line("ann", "x", "1/2"), line("bob", "x", "-3")}
	for _, c := range []struct {
		l    api.Line
		want api.Book
	}{
		{line("!round", "x", "9"), api.Book{line("!round", "x", "9"), b[0], b[1], b[2]}},
		{line("ann", "a", "1"), api.Book{line("ann", "a", "1"), b[0], b[1], b[2]}},
		{line("ann", "cash0", "-1"), api.Book{b[0], line("ann", "cash0", "-1"), b[1], b[2]}},
		{line("ann", "y", "1/3"), api.Book{b[0], b[1], line("ann", "y", "1/3"), b[2]}},
		{line("anna", "a", "4"), api.Book{b[0], b[1], line("anna", "a", "4"), b[2]}},
		{line("bob", "cash", "5"), api.Book{b[0], b[1], line("bob", "cash", "5"), b[2]}},
		{line("bob", "y", "5"), api.Book{b[0], b[1], b[2], line("bob", "y", "5")}},
		{line("cid", "a", "5"), api.Book{b[0], b[1], b[2], line("cid", "a", "5")}},
		{line("ann", "cash", "1/2"), api.Book{line("ann", "cash", "5/2"), b[1], b[2]}},
		{line("ann", "x", "1/2"), api.Book{b[0], line("ann", "x", "1"), b[2]}},
		{line("ann", "x", "-1/3"), api.Book{b[0], line("ann", "x", "1/6"), b[2]}},
		{line("bob", "x", "100000000000000000000"), api.Book{b[0], b[1], line("bob", "x", "99999999999999999997")}},
		{line("ann", "cash", "-2"), api.Book{b[1], b[2]}},
		{line("ann", "x", "-1/2"), api.Book{b[0], b[2]}},
		{line("bob", "x", "3"), api.Book{b[0], b[1]}},
		{line("ann", "cash", "0"), b}, {line("bob", "x", "0"), b}, {line("a", "x", "0"), b}, {line("ann", "d", "0"), b}, {line("cid", "x", "0"), b},
	} {
		if got := added(t, b, c.l); !slices.Equal(got, c.want) {
			t.Errorf("Add of %v: %v, not %v", c.l, got, c.want)
		}
	}
	one := line("ann", "x", "5")
	if got := added(t, nil, one); !slices.Equal(got, api.Book{one}) {
		t.Errorf("Add to nothing: %v", got)
	}
	if got := added(t, api.Book{one}, line("ann", "x", "-5")); len(got) != 0 {
		t.Errorf("Add that leaves nothing: %v", got)
	}
	if got := added(t, nil, line("ann", "x", "0")); len(got) != 0 {
		t.Errorf("Add of 0 to nothing: %v", got)
	}
}

// P6.2
func TestAddOfWrongLines(t *testing.T) {
	refused := func(l api.Line) {
		t.Helper()
		for _, b := range []api.Book{nil, {}, sample(), {line("ann", "x", "1")}} {
			before := slices.Clone(b)
			if got, is := book.Add(b, l); got != nil || is {
				t.Errorf("Add(%v, %q): %v, %t", b, l, got, is)
			}
			if !slices.Equal(b, before) {
				t.Errorf("Add of %q leaves %v of %v", l, b, before)
			}
		}
	}
	for _, name := range notNames() {
		for _, q := range []string{"1", "0", "-1/2"} {
			refused(line(name, "x", q))
			refused(line("ann", name, q))
			refused(line(name, name, q))
		}
	}
	for _, x := range notRats() {
		for _, l := range []api.Line{{Acct: "ann", Asset: "x", Q: x}, {Acct: "cid", Asset: "x", Q: x}, {Acct: "!", Asset: "new", Q: x}, {Acct: "", Asset: "x", Q: x}} {
			refused(l)
		}
	}
	refused(api.Line{})
	for _, name := range names() {
		for _, l := range []api.Line{line(name, "x", "1"), line("ann", name, "1"), line(name, name, "-1/2")} {
			if got := added(t, nil, l); !slices.Equal(got, api.Book{l}) {
				t.Errorf("Add of %v: %v", l, got)
			}
		}
	}
}

// P6.3
func TestAddedAndTakenAgain(t *testing.T) {
	b := sample()
	lines := append(sample(), line("!round", "x", "1"), line("cid", "cash", "2/7"), line("ann", "z", "-5"), line("ann", "cash", "-5/2"), line("a", "a", "0"), line("zzzzzzzzzzzzzzzzzzzz", "y", "1"))
	for _, l := range lines {
		for _, l := range []api.Line{l, {Acct: l.Acct, Asset: l.Asset, Q: negative(t, l.Q)}} {
			back := api.Line{Acct: l.Acct, Asset: l.Asset, Q: negative(t, l.Q)}
			if got := added(t, added(t, b, l), back); !slices.Equal(got, b) {
				t.Errorf("%v, added and taken again: %v", l, got)
			}
			if got := added(t, added(t, nil, l), back); len(got) != 0 {
				t.Errorf("%v, added to nothing and taken again: %v", l, got)
			}
		}
	}
}

// negative answers x with the other sign.
func negative(t *testing.T, x api.Rat) api.Rat {
	t.Helper()
	return of(new(big.Rat).Neg(number(t, x)))
}

// randomLine answers one of few accounts and assets, so that many come together.
func randomLine(r *rand.Rand) api.Line {
	accts := []string{"!", "!issuer", "0", "ann", "anna", "bob", "cid", "z"}
	assets := []string{"!x", "cash", "x", "xx", "y"}
	return api.Line{Acct: accts[r.Intn(len(accts))], Asset: assets[r.Intn(len(assets))], Q: of(big.NewRat(int64(r.Intn(7)-3), int64(1+r.Intn(2))))}
}

// expected answers by the library's means the book that lines come to.
func expected(t *testing.T, lines []api.Line) api.Book {
	t.Helper()
	sums := map[[2]string]*big.Rat{}
	var keys [][2]string
	for _, l := range lines {
		key := [2]string{l.Acct, l.Asset}
		if sums[key] == nil {
			sums[key] = new(big.Rat)
			keys = append(keys, key)
		}
		sums[key].Add(sums[key], number(t, l.Q))
	}
	slices.SortFunc(keys, func(a, b [2]string) int { return slices.Compare(a[:], b[:]) })
	var out api.Book
	for _, key := range keys {
		if sums[key].Sign() != 0 {
			out = append(out, api.Line{Acct: key[0], Asset: key[1], Q: of(sums[key])})
		}
	}
	return out
}

// P6.1 to P6.3: many lines, in their order and in others, against the library.
func TestAddOfMany(t *testing.T) {
	r := rand.New(rand.NewSource(1))
	for range 60 {
		lines := make([]api.Line, r.Intn(80))
		for i := range lines {
			lines[i] = randomLine(r)
		}
		want := expected(t, lines)
		for range 4 {
			var b api.Book
			for i, l := range lines {
				b = added(t, b, l)
				if i == len(lines)/2 && !slices.Equal(b, expected(t, lines[:i+1])) {
					t.Fatalf("half of %v: %v", lines, b)
				}
			}
			if !slices.Equal(b, want) {
				t.Fatalf("%v: %v, not %v", lines, b, want)
			}
			checkAssets(t, b)
			r.Shuffle(len(lines), func(i, j int) { lines[i], lines[j] = lines[j], lines[i] })
		}
	}
}

// checkAssets holds Get, Total and Holders of every asset against each other.
func checkAssets(t *testing.T, b api.Book) {
	t.Helper()
	for _, asset := range []string{"!x", "cash", "x", "xx", "y", "w"} {
		sum := new(big.Rat)
		var lines []api.Line
		for _, l := range b {
			if l.Asset == asset {
				lines = append(lines, l)
				sum.Add(sum, number(t, l.Q))
			}
		}
		if got := book.Holders(b, asset); !slices.Equal(got, lines) {
			t.Fatalf("Holders(%v, %q): %v", b, asset, got)
		}
		if got := book.Total(b, asset); got != of(sum) {
			t.Fatalf("Total(%v, %q): %v", b, asset, got)
		}
		for _, l := range lines {
			if got := book.Get(b, l.Acct, asset); got != l.Q {
				t.Fatalf("Get(%v, %q, %q): %v", b, l.Acct, asset, got)
			}
		}
	}
}

// R4: what is answered, and what it was answered of, may be written into without the other one changing, whatever room lies behind it.
func TestNothingIsShared(t *testing.T) {
	for _, l := range []api.Line{line("ann", "x", "0"), line("ann", "x", "1"), line("ann", "x", "-3"), line("!", "a", "1"), line("zzzzzzzzzzzzzzzzzzzz", "y", "1"), line("zzzzzzzzzzzzzzzzzzzz", "x", "3"), line("!", "x", "1/2")} {
		roomy := make(api.Book, 0, 100)
		roomy = append(roomy, sample()...)
		got := added(t, roomy, l)
		want := slices.Clone(got)
		if !slices.Equal(roomy[:len(roomy)+1][len(roomy):], api.Book{{}}) {
			t.Errorf("Add of %v wrote behind the book", l)
		}
		clear(roomy)
		if !slices.Equal(got, want) {
			t.Errorf("Add of %v shares the book", l)
		}
		roomy = append(roomy[:0], sample()...)
		clear(added(t, roomy, l))
		if !slices.Equal(roomy, sample()) {
			t.Errorf("Add of %v shares its answer", l)
		}
	}
	b := sample()
	clear(book.Holders(b, "x"))
	if !slices.Equal(b, sample()) {
		t.Error("Holders shares its answer")
	}
	only := api.Book{line("ann", "x", "1"), line("bob", "x", "2")}
	got := book.Holders(only, "x")
	clear(only)
	if !slices.Equal(got, []api.Line{line("ann", "x", "1"), line("bob", "x", "2")}) {
		t.Error("Holders shares the book")
	}
}

// R5: an empty book and none are the same.
func TestEmptyBooks(t *testing.T) {
	zero := api.Rat{Num: "0", Den: "1"}
	for _, b := range []api.Book{nil, {}, make(api.Book, 0, 5), sample()[:0]} {
		if !book.May(b) || book.Get(b, "ann", "x") != zero || book.Total(b, "x") != zero || len(book.Holders(b, "x")) != 0 {
			t.Errorf("of an empty book: %v, %v, %v", book.Get(b, "ann", "x"), book.Total(b, "x"), book.Holders(b, "x"))
		}
		if got := added(t, b, line("ann", "x", "1")); !slices.Equal(got, api.Book{line("ann", "x", "1")}) {
			t.Errorf("Add to an empty book: %v", got)
		}
	}
}

// R1, P1 and P2: books of many lines, and of long numbers, come to an end, and are exact.
func TestLongOnes(t *testing.T) {
	many := 20000
	b := make(api.Book, many)
	sum := new(big.Rat)
	for i := range b {
		b[i] = line("a"+strconv.Itoa(many+i), "x", "1/"+strconv.Itoa(1+i%9))
		sum.Add(sum, number(t, b[i].Q))
	}
	if !book.May(b) || book.Total(b, "x") != of(sum) || len(book.Holders(b, "x")) != many || book.Get(b, b[many-1].Acct, "x") != b[many-1].Q {
		t.Error("many lines")
	}
	nines := strings.Repeat("9", 10000)
	long := api.Book{line("ann", "x", nines), line("bob", "x", "-1/"+nines)}
	if got := added(t, long, line("ann", "x", "1")); got[0].Q.Num != "1"+strings.Repeat("0", 10000) {
		t.Error("a long number, and 1")
	}
	if got := book.Total(long, "x"); got != of(new(big.Rat).Add(number(t, long[0].Q), number(t, long[1].Q))) {
		t.Error("long numbers together")
	}
	huge := strings.Repeat("a", 1<<20)
	if got := book.Get(long, huge, huge); got != (api.Rat{Num: "0", Den: "1"}) || book.May(api.Book{line(huge, "x", "1")}) {
		t.Error("a long name")
	}
}

// P1: sums of many denominators that share nothing end before long.
func TestTotalOfManyDenominators(t *testing.T) {
	var b api.Book
	sum := new(big.Rat)
	for i := range 600 {
		b = append(b, line("a"+strconv.Itoa(1000+i), "x", "1/"+strconv.Itoa(1000003+2*i)))
		sum.Add(sum, number(t, b[i].Q))
	}
	if got := book.Total(b, "x"); got != of(sum) {
		t.Errorf("of many denominators: %v", got)
	}
}

// R3: what was asked before is not kept.
func TestAnswersAgain(t *testing.T) {
	for range 3 {
		b := sample()
		checkAssets(t, b)
		if got := added(t, b, line("ann", "x", "1")); book.Get(got, "ann", "x").Num != "4" || book.Get(b, "ann", "x").Num != "3" || book.Get(notBooks()[0], "ann", "x") != (api.Rat{}) {
			t.Error("ann's x")
		}
	}
}
