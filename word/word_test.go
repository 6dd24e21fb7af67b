package word_test

import (
	"math"
	"math/rand"
	"regexp"
	"slices"
	"strconv"
	"strings"
	"testing"

	"debenture/api"
	"debenture/word"
)

// shape is what begins with a token: a name, a number or a sign, as long as can be.
var shape = regexp.MustCompile(`^(?:([a-z][a-z0-9]*)|([0-9]+(?:\.[0-9]+)?)|([-+*/(),]))`)

// limits are the tokens' greatest sizes, by kind.
var limits = []int{20, 100, 1}

// outcome is what Lex answers.
type outcome struct {
	toks      []api.Tok
	err       api.Errno
	line, col int
}

// same tells whether both answers are the same.
func (o outcome) same(p outcome) bool {
	return slices.Equal(o.toks, p.toks) && o.err == p.err && o.line == p.line && o.col == p.col
}

// placed answers where the byte at i stands.
func placed(s string, i int) (int, int) {
	return 1 + strings.Count(s[:i], "\n"), i - strings.LastIndex(s[:i], "\n")
}

// wrongAt answers what Lex does where the text at i cannot be read.
func wrongAt(s string, i int) outcome {
	line, col := placed(s, i)
	return outcome{nil, api.ErrLex, line, col}
}

// plain answers what the document's words say.
func plain(s string) outcome {
	if len(s) > 20000 {
		return outcome{nil, api.ErrLex, 1, 1}
	}
	var out []api.Tok
	for i := 0; i < len(s); {
		if s[i] == ' ' || s[i] == '\n' {
			i++
			continue
		}
		kind, text := begun(s[i:])
		if text == "" || len(text) > limits[kind] {
			return wrongAt(s, i)
		}
		line, col := placed(s, i)
		out = append(out, api.Tok{Kind: kind, Text: text, Line: line, Col: col})
		i += len(text)
	}
	return outcome{toks: out}
}

// begun answers the kind and the text of what s begins with; no text, if with no token.
func begun(s string) (int, string) {
	found := shape.FindStringSubmatch(s)
	if found == nil {
		return 0, ""
	}
	kind := slices.IndexFunc(found[1:], func(text string) bool { return text != "" })
	return kind, found[0]
}

// lexed answers what Lex does, which has to answer nothing beside an error, and no place beside tokens.
func lexed(t *testing.T, s string) outcome {
	t.Helper()
	var o outcome
	o.toks, o.err, o.line, o.col = word.Lex(s)
	switch {
	case o.err == api.OK && (o.line != 0 || o.col != 0):
		t.Fatalf("Lex(%.60q): OK, and the place %d, %d", s, o.line, o.col)
	case o.err != api.OK && (o.err != api.ErrLex || o.toks != nil || o.line < 1 || o.col < 1):
		t.Fatalf("Lex(%.60q): %v", s, o)
	}
	return o
}

// check wants an answer of Lex, and that it is the one of the document's words.
func check(t *testing.T, s string, want outcome) {
	t.Helper()
	if got := lexed(t, s); !got.same(want) {
		t.Errorf("Lex(%.60q): %.300v, not %.300v", s, got, want)
	}
	if said := plain(s); !said.same(want) {
		t.Errorf("Lex(%.60q): %.300v is wanted, but the words say %.300v", s, want, said)
	}
}

// reads wants these tokens, one line and no gap between them, from column 1 on.
func reads(t *testing.T, kinds []int, texts ...string) {
	t.Helper()
	want, col := outcome{}, 1
	for i, text := range texts {
		want.toks = append(want.toks, api.Tok{Kind: kinds[i], Text: text, Line: 1, Col: col})
		col += len(text)
	}
	check(t, strings.Join(texts, ""), want)
}

// refuses wants ErrLex, and that place.
func refuses(t *testing.T, s string, line, col int) {
	t.Helper()
	check(t, s, outcome{nil, api.ErrLex, line, col})
}

// words answers the tokens' texts.
func words(l []api.Tok) []string {
	var out []string
	for _, x := range l {
		out = append(out, x.Text)
	}
	return out
}

// alike tells whether both have the same kinds and texts, wherever they stand.
func alike(k, l []api.Tok) bool {
	return slices.EqualFunc(k, l, func(x, y api.Tok) bool { return x.Kind == y.Kind && x.Text == y.Text })
}

// begins tells whether a byte begins a token.
func begins(c int) bool {
	return c >= 'a' && c <= 'z' || c >= '0' && c <= '9' || c < 128 && strings.Contains("+-*/(),", string(rune(c)))
}

// sample answers texts that can be read.
func sample() []string {
	return []string{
		"", " ", "\n", "a", "0", "+", "max(1.5, px)", "px(x, 5) - 2 * -y", "((2 * px(x, 2)) - 50)", "if(a, b, c)", "num(-1, 3)",
		"a1 1a a1b2 1.5a a1.5\n\n  7,7.0/07", strings.Repeat("z", 20) + " " + strings.Repeat("9", 100), "\n\n\na\n", "avg(x,1,60)*hi(y,0,0)/lo(z,9999,9999)",
		"a b\nc d\n e", "1.2 .", "1 . 2",
	}
}

// P9.1: the document's example, and others.
func TestLex(t *testing.T) {
	check(t, "max(1.5, px)", outcome{toks: []api.Tok{
		{Kind: api.TokName, Text: "max", Line: 1, Col: 1}, {Kind: api.TokSign, Text: "(", Line: 1, Col: 4}, {Kind: api.TokNum, Text: "1.5", Line: 1, Col: 5},
		{Kind: api.TokSign, Text: ",", Line: 1, Col: 8}, {Kind: api.TokName, Text: "px", Line: 1, Col: 10}, {Kind: api.TokSign, Text: ")", Line: 1, Col: 12},
	}})
	check(t, "  ab\n\n 07 -\nz", outcome{toks: []api.Tok{
		{Kind: api.TokName, Text: "ab", Line: 1, Col: 3}, {Kind: api.TokNum, Text: "07", Line: 3, Col: 2}, {Kind: api.TokSign, Text: "-", Line: 3, Col: 5}, {Kind: api.TokName, Text: "z", Line: 4, Col: 1},
	}})
	for _, s := range sample() {
		check(t, s, plain(s))
	}
	if api.TokName != 0 || api.TokNum != 1 || api.TokSign != 2 || api.ErrLex != 90 {
		t.Error("the document's numbers")
	}
}

// P9.1 and R5: of no tokens there is nothing, and no error.
func TestLexNone(t *testing.T) {
	for _, s := range []string{"", " ", "\n", "  ", "\n\n", " \n ", "\n \n", strings.Repeat(" ", 20000), strings.Repeat("\n", 20000), strings.Repeat(" \n", 10000)} {
		check(t, s, outcome{})
	}
}

// P9.1: a name is as long as can be, and of 20 bytes at most.
func TestLexNames(t *testing.T) {
	for c := 'a'; c <= 'z'; c++ {
		for size := 1; size <= 20; size++ {
			reads(t, []int{api.TokName}, strings.Repeat(string(c), size))
			reads(t, []int{api.TokName}, string(c)+strings.Repeat("0", size-1))
			reads(t, []int{api.TokName}, string(c)+strings.Repeat("9a", 10)[:size-1])
		}
		for size := 21; size <= 60; size++ {
			refuses(t, strings.Repeat(string(c), size), 1, 1)
			refuses(t, string(c)+strings.Repeat("0", size-1), 1, 1)
		}
	}
	name := "abcdefghij0123456789"
	reads(t, []int{api.TokName}, name)
	refuses(t, name+"a", 1, 1)
	refuses(t, name+"0", 1, 1)
	refuses(t, " "+name+"a", 1, 2)
	refuses(t, "\n\n+"+name+"z", 3, 2)
	refuses(t, "1"+name+"z", 1, 2)
	refuses(t, name+" "+name+"\n "+name+name, 2, 2)
}

// P9.1: a name ends ahead of what is no letter and no digit.
func TestLexNameEnds(t *testing.T) {
	reads(t, []int{api.TokName}, "a1")
	reads(t, []int{api.TokName}, "a1b2")
	reads(t, []int{api.TokName}, "ab")
	for _, name := range []string{"a", "z9", "abcdefghij0123456789"} {
		for _, sign := range strings.Split("+-*/(),", "") {
			reads(t, []int{api.TokName, api.TokSign}, name, sign)
			reads(t, []int{api.TokName, api.TokSign, api.TokName}, name, sign, "b")
			reads(t, []int{api.TokSign, api.TokName, api.TokSign}, sign, name, sign)
		}
		check(t, name+" b", outcome{toks: []api.Tok{{Text: name, Line: 1, Col: 1}, {Text: "b", Line: 1, Col: len(name) + 2}}})
		check(t, name+"\nb", outcome{toks: []api.Tok{{Text: name, Line: 1, Col: 1}, {Text: "b", Line: 2, Col: 1}}})
		check(t, name+" 7", outcome{toks: []api.Tok{{Text: name, Line: 1, Col: 1}, {Kind: api.TokNum, Text: "7", Line: 1, Col: len(name) + 2}}})
		for _, wrong := range []string{".", ".5", "_", "A", "!", "\t", "\r", "\x00", "\x80", "\u00e4"} {
			refuses(t, name+wrong, 1, len(name)+1)
			refuses(t, name+wrong+name, 1, len(name)+1)
		}
	}
}

// P9.1: a number is as long as can be, and of 100 bytes at most, its point being one of them.
func TestLexNumbers(t *testing.T) {
	digits := strings.Repeat("1234567890", 11)
	for size := 1; size <= 100; size++ {
		reads(t, []int{api.TokNum}, digits[:size])
		reads(t, []int{api.TokNum}, strings.Repeat("0", size))
	}
	for size := 101; size <= 110; size++ {
		refuses(t, digits[:size], 1, 1)
		refuses(t, "a\n "+strings.Repeat("0", size), 2, 2)
	}
	for size := 3; size <= 105; size++ {
		for point := 1; point < size-1; point++ {
			s := digits[:point] + "." + digits[:size-1-point]
			if size <= 100 {
				reads(t, []int{api.TokNum}, s)
				reads(t, []int{api.TokNum, api.TokName}, s, "a")
				continue
			}
			refuses(t, s, 1, 1)
			refuses(t, "(\n"+s+")", 2, 1)
		}
	}
}

// P9.1: a point with no digit behind it is no part of the number ahead of it, and begins no token.
func TestLexPoints(t *testing.T) {
	for _, ahead := range []string{"0", "1", "12", "1.5", strings.Repeat("1", 99), strings.Repeat("1", 100), strings.Repeat("1", 50) + "." + strings.Repeat("1", 49)} {
		for _, behind := range []string{"", "a", "z1", ".", "..", ".5", " ", " 5", "\n", "\n5", "+", "-5", "(", ")", "A", "_", "\x00", "\xb2", "\u0661", "e5"} {
			refuses(t, ahead+"."+behind, 1, len(ahead)+1)
			refuses(t, "\n "+ahead+"."+behind, 2, len(ahead)+2)
		}
	}
	for _, s := range []string{".", ".5", "..", ". 5", ".a", ".\n"} {
		refuses(t, s, 1, 1)
		refuses(t, "\n  "+s, 2, 3)
		refuses(t, "+"+s, 1, 2)
		refuses(t, "a"+s, 1, 2)
	}
	refuses(t, strings.Repeat("1", 101)+".", 1, 1)
	refuses(t, strings.Repeat("1", 100)+".1", 1, 1)
	refuses(t, strings.Repeat("1", 99)+".1", 1, 1)
	refuses(t, "1.2.3", 1, 4)
	refuses(t, "1.2 .3", 1, 5)
	refuses(t, "1 .5", 1, 3)
	refuses(t, "1\n.5", 2, 1)
}

// P9.1: a number ends ahead of what is no digit; a name may stand right behind it.
func TestLexNumberEnds(t *testing.T) {
	for _, number := range []string{"0", "1", "007", "1.5", "0.0", strings.Repeat("9", 100), "1." + strings.Repeat("0", 98)} {
		reads(t, []int{api.TokNum, api.TokName}, number, "a")
		reads(t, []int{api.TokNum, api.TokName}, number, "e5")
		reads(t, []int{api.TokNum, api.TokName}, number, "abcdefghij0123456789")
		for _, sign := range strings.Split("+-*/(),", "") {
			reads(t, []int{api.TokNum, api.TokSign}, number, sign)
			reads(t, []int{api.TokSign, api.TokNum, api.TokSign, api.TokNum}, sign, number, sign, number)
		}
		check(t, number+" 1", outcome{toks: []api.Tok{{Kind: api.TokNum, Text: number, Line: 1, Col: 1}, {Kind: api.TokNum, Text: "1", Line: 1, Col: len(number) + 2}}})
		check(t, number+"\n1", outcome{toks: []api.Tok{{Kind: api.TokNum, Text: number, Line: 1, Col: 1}, {Kind: api.TokNum, Text: "1", Line: 2, Col: 1}}})
	}
}

// P9.1: each sign is a token of its own, whatever stands beside it.
func TestLexSigns(t *testing.T) {
	signs := strings.Split("+-*/(),", "")
	kinds := []int{api.TokSign, api.TokSign, api.TokSign}
	for _, a := range signs {
		reads(t, kinds, a)
		for _, b := range signs {
			reads(t, kinds, a, b)
			for _, c := range signs {
				reads(t, kinds, a, b, c)
			}
			check(t, a+" \n "+b, outcome{toks: []api.Tok{{Kind: api.TokSign, Text: a, Line: 1, Col: 1}, {Kind: api.TokSign, Text: b, Line: 2, Col: 2}}})
		}
	}
}

// P9.1: a place is a line and a column, both from 1 on.
func TestLexPlaces(t *testing.T) {
	for above := range 30 {
		for ahead := range 30 {
			gap := strings.Repeat("\n", above) + strings.Repeat(" ", ahead)
			for _, x := range []api.Tok{{Kind: api.TokName, Text: "ab9"}, {Kind: api.TokNum, Text: "1.25"}, {Kind: api.TokSign, Text: ","}} {
				x.Line, x.Col = above+1, ahead+1
				next := api.Tok{Kind: api.TokSign, Text: "(", Line: above + 1, Col: ahead + 1 + len(x.Text)}
				last := api.Tok{Kind: api.TokName, Text: "z", Line: above + 2, Col: 1}
				check(t, gap+x.Text, outcome{toks: []api.Tok{x}})
				check(t, gap+x.Text+"\n", outcome{toks: []api.Tok{x}})
				check(t, gap+x.Text+"(  \nz \n\n", outcome{toks: []api.Tok{x, next, last}})
			}
			refuses(t, gap+"?", above+1, ahead+1)
			refuses(t, strings.Repeat("a \n", above)+strings.Repeat("+", ahead)+"?", above+1, ahead+1)
		}
	}
	// Blanks at a line's end do not count for the next one.
	check(t, "a   \n  \n b", outcome{toks: []api.Tok{{Text: "a", Line: 1, Col: 1}, {Text: "b", Line: 3, Col: 2}}})
}

// P9.1: far places, at the end of the longest text that is read.
func TestLexFarPlaces(t *testing.T) {
	check(t, strings.Repeat(" ", 19999)+"a", outcome{toks: []api.Tok{{Text: "a", Line: 1, Col: 20000}}})
	check(t, strings.Repeat("\n", 19999)+"a", outcome{toks: []api.Tok{{Text: "a", Line: 20000, Col: 1}}})
	check(t, strings.Repeat(" \n", 9999)+" 7", outcome{toks: []api.Tok{{Kind: api.TokNum, Text: "7", Line: 10000, Col: 2}}})
	refuses(t, strings.Repeat(" ", 19999)+"A", 1, 20000)
	refuses(t, strings.Repeat("\n", 19999)+"A", 20000, 1)
	refuses(t, strings.Repeat("a ", 9999)+" ?", 1, 20000)
}

// P9.1: a text of 20000 bytes is read, a longer one is not, whatever stands in it.
func TestLexSizes(t *testing.T) {
	for _, part := range []string{" ", "\n", "+", "a ", "1\n", "a+1*", "(1.5)\n ", "ab9, 12/"} {
		s := strings.Repeat(part, 20002)
		check(t, s[:19999], plain(s[:19999]))
		check(t, s[:20000], plain(s[:20000]))
		if got := lexed(t, s[:20000]); got.err != api.OK {
			t.Errorf("20000 bytes of %q: %d", part, got.err)
		}
		refuses(t, s[:20001], 1, 1)
		refuses(t, s[:20002], 1, 1)
		refuses(t, s, 1, 1)
	}
	// Of a text that is too long, nothing else counts.
	refuses(t, " \n?"+strings.Repeat(" ", 19998), 1, 1)
	refuses(t, strings.Repeat("\n", 20000)+"?", 1, 1)
	refuses(t, "a"+strings.Repeat("b", 20000), 1, 1)
	refuses(t, " a"+strings.Repeat("b", 19998), 1, 2)
	refuses(t, "\n"+strings.Repeat("7", 19999), 2, 1)
	refuses(t, " "+strings.Repeat("7", 20000), 1, 1)
}

// P9.1: each byte that begins no token is refused where it stands.
func TestLexWrongBytes(t *testing.T) {
	many := 0
	for c := range 256 {
		if begins(c) || c == ' ' || c == '\n' {
			continue
		}
		many++
		wrong := string([]byte{byte(c)})
		refuses(t, wrong, 1, 1)
		refuses(t, wrong+"a", 1, 1)
		refuses(t, wrong+wrong, 1, 1)
		refuses(t, "  "+wrong, 1, 3)
		refuses(t, "abc"+wrong, 1, 4)
		refuses(t, "12"+wrong, 1, 3)
		refuses(t, "1.5"+wrong+"x", 1, 4)
		refuses(t, "a)"+wrong, 1, 3)
		refuses(t, "a "+wrong+" b", 1, 3)
		refuses(t, "a\n"+wrong, 2, 1)
		refuses(t, "a\n\n b"+wrong+"\n?", 3, 3)
		if c != '.' {
			refuses(t, "1."+wrong, 1, 2)
		}
	}
	if want := 256 - 26 - 10 - 7 - 2; many != want {
		t.Errorf("%d bytes that begin no token, not %d", many, want)
	}
	for _, s := range []string{"A", "Z", "\t", "\r", "\v", "\f", "\x00", "\x7f", "\x80", "\xff", "\u00a0", "\u00e4", "\u0661", "\u2028", "\ufeff", "!", "_", ".", "=", "<", "^", ":", ";", "[", "]", "{", "}", "\"", "'"} {
		refuses(t, s, 1, 1)
	}
	refuses(t, "a\r\nb", 1, 2)
	refuses(t, "maX", 1, 3)
	refuses(t, "\u00e4a", 1, 1)
	refuses(t, "a\u00e4", 1, 2)
}

// P9.1: the first one that is wrong is told, be it a byte or a token.
func TestLexFirstWrong(t *testing.T) {
	name, number := strings.Repeat("a", 21), strings.Repeat("1", 101)
	refuses(t, name+"?", 1, 1)
	refuses(t, number+"?", 1, 1)
	refuses(t, " "+name+" ?", 1, 2)
	refuses(t, "\n "+number+"\n?", 2, 2)
	refuses(t, "?"+name, 1, 1)
	refuses(t, " ?\n"+number, 1, 2)
	refuses(t, "a ? "+name, 1, 3)
	refuses(t, "a "+name+number, 1, 3)
	refuses(t, "a "+number+name, 1, 3)
	refuses(t, "1"+name+"?", 1, 2)
	refuses(t, number+".", 1, 1)
	refuses(t, number[1:]+"."+name, 1, 101)
	refuses(t, name[1:]+"?"+name, 1, 21)
	refuses(t, name[1:]+" ?\n"+name, 1, 22)
}

// P9.1: all short texts of bytes of each kind.
func TestLexShortTexts(t *testing.T) {
	var tell func(s string, more int)
	tell = func(s string, more int) {
		if got, want := lexed(t, s), plain(s); !got.same(want) {
			t.Errorf("Lex(%q): %v, not %v", s, got, want)
		}
		if more == 0 {
			return
		}
		for _, c := range []string{"a", "0", ".", "-", " ", "\n", "A"} {
			tell(s+c, more-1)
		}
	}
	tell("", 5)
	for a := range 256 {
		for b := range 256 {
			tell(string([]byte{byte(a), byte(b)}), 0)
		}
	}
}

// P9.1: random texts, of pieces that are mostly tokens.
func TestLexRandomTexts(t *testing.T) {
	random := rand.New(rand.NewSource(9))
	pieces := []string{"a", "px", "z9", "0", "7", "1.5", ".", ".5", "+", "-", "(", ")", ",", " ", " ", "  ", "\n", "\n", strings.Repeat("q", 19), strings.Repeat("8", 97)}
	for range 30000 {
		var b strings.Builder
		for range random.Intn(30) {
			b.WriteString(pieces[random.Intn(len(pieces))])
		}
		if random.Intn(5) == 0 {
			b.WriteByte(byte(random.Intn(256)))
			b.WriteString(pieces[random.Intn(len(pieces))])
		}
		s := b.String()
		if got, want := lexed(t, s), plain(s); !got.same(want) {
			t.Fatalf("Lex(%q): %v, not %v", s, got, want)
		}
	}
}

// P9.2: the texts, parted by blanks; nothing ahead of the first one, or behind the last one.
func TestPrint(t *testing.T) {
	if word.Print(nil) != "" || word.Print([]api.Tok{}) != "" {
		t.Error("Print of none")
	}
	for _, c := range []struct{ text, want string }{
		{"a", "a"}, {"  a\n", "a"}, {"max(1.5,px)", "max ( 1.5 , px )"}, {"a\n\nb", "a b"}, {"1a", "1 a"}, {"--", "- -"}, {"07/0.50", "07 / 0.50"},
	} {
		if got := word.Print(lexed(t, c.text).toks); got != c.want {
			t.Errorf("Print of the tokens of %q: %q, not %q", c.text, got, c.want)
		}
	}
	for _, s := range sample() {
		l := lexed(t, s).toks
		if got, want := word.Print(l), strings.Join(words(l), " "); got != want {
			t.Errorf("Print of the tokens of %q: %q, not %q", s, got, want)
		}
	}
}

// P9.2 and R1: whatever tokens there are, their texts alone count.
func TestPrintOfAnyTokens(t *testing.T) {
	for _, texts := range [][]string{
		{""}, {"", ""}, {"a", "", "b"}, {" "}, {"a b", "\n"}, {"?"}, {"\x00", "\xff"}, {strings.Repeat("a", 21)}, {"A", "..", "1."}, {strings.Repeat("x", 1<<20), "y"},
	} {
		for _, kind := range []int{api.TokName, api.TokNum, api.TokSign, api.TokKinds, -1, math.MaxInt, math.MinInt} {
			var l []api.Tok
			for _, text := range texts {
				l = append(l, api.Tok{Kind: kind, Text: text, Line: kind, Col: -kind})
			}
			if got, want := word.Print(l), strings.Join(texts, " "); got != want {
				t.Errorf("Print of tokens of %.60q: %.60q, not %.60q", texts, got, want)
			}
		}
	}
	many := slices.Repeat([]api.Tok{{Text: "ab"}}, 1<<20)
	if got := word.Print(many); got != strings.Repeat("ab ", 1<<20)[:3<<20-1] {
		t.Errorf("Print of many: %d bytes", len(got))
	}
}

// P9.3 and P5: what is printed is read, as the same kinds and texts, on one line.
func TestPrintedIsRead(t *testing.T) {
	random := rand.New(rand.NewSource(93))
	pieces := []string{"a", "px", "z9", "0", "7", "007", "1.5", "+", "-", "*", "/", "(", ")", ",", " ", "\n", "\n ", "abcdefghij0123456789 ", strings.Repeat("8", 100) + "\n"}
	texts := sample()
	for range 3000 {
		s := ""
		for range random.Intn(40) {
			s += pieces[random.Intn(len(pieces))]
		}
		texts = append(texts, s)
	}
	read := 0
	for _, s := range texts {
		first := lexed(t, s)
		if first.err != api.OK {
			continue
		}
		read++
		printed := word.Print(first.toks)
		again := lexed(t, printed)
		if again.err != api.OK || !alike(first.toks, again.toks) {
			t.Fatalf("%q is printed as %q, which is read as %v", s, printed, again)
		}
		if word.Print(again.toks) != printed {
			t.Fatalf("%q is printed as %q, and that as %q", s, printed, word.Print(again.toks))
		}
		check(t, printed, again)
	}
	if read < 1000 {
		t.Errorf("only %d texts are read", read)
	}
}

// P9.3: up to the greatest size of a text that is read, which a print may pass.
func TestPrintedIsReadAtTheLimit(t *testing.T) {
	l := lexed(t, strings.Repeat("(", 9999)+"ab").toks
	if s := word.Print(l); len(s) != 20000 || !alike(lexed(t, s).toks, l) {
		t.Errorf("%d bytes", len(s))
	}
	l = lexed(t, strings.Repeat("(", 10001)).toks
	refuses(t, word.Print(l), 1, 1)
}

// R1 and P1: texts of any length come to an end.
func TestLongTexts(t *testing.T) {
	for _, part := range []string{" ", "\n", "a", "1", "1.", "+", "a ", "?", "\x00"} {
		refuses(t, strings.Repeat(part, 1<<24), 1, 1)
	}
}

// R3 and R4: an answer that is written into later changes no other one, and Print leaves its argument as it was.
func TestNothingIsShared(t *testing.T) {
	s := "max(1.5, px)\n+ 7"
	want := lexed(t, s)
	for range 3 {
		got := lexed(t, s)
		if !got.same(want) {
			t.Fatalf("Lex(%q): %v, not %v", s, got, want)
		}
		for i := range got.toks {
			got.toks[i] = api.Tok{Kind: -1, Text: strconv.Itoa(i), Line: -1, Col: -1}
		}
		refuses(t, "?", 1, 1)
		check(t, "", outcome{})
	}
	l := lexed(t, s).toks
	printed := word.Print(l)
	if !slices.Equal(l, want.toks) {
		t.Errorf("Print leaves %v", l)
	}
	l[0].Text = "min"
	if printed != "max ( 1.5 , px ) + 7" || word.Print(l) != "min ( 1.5 , px ) + 7" {
		t.Errorf("Print: %q, then %q", printed, word.Print(l))
	}
}
