package unit_test

import (
	"math"
	"slices"
	"strconv"
	"strings"
	"testing"

	"engram/api"
	"engram/check"
	"engram/glyph"
	"engram/unit"
)

// of is a unit of no memory.
func of(l ...api.Func) api.Unit { return api.Unit{Funcs: l} }

func fn(name rune, args int, code string) api.Func {
	return api.Func{Name: name, Args: args, Code: code}
}

// named is n functions, each with a name of its own.
func named(n int, code string) []api.Func {
	var l []api.Func
	for i := range n {
		l = append(l, fn('Ā'+rune(i), 0, code))
	}
	return l
}

// wide is a code of so many bytes that is written as it stands.
func wide(n int) string { return "1" + strings.Repeat("!", n-1) }

func same(a, b api.Unit) bool {
	return a.Pages == b.Pages && a.Most == b.Most && slices.Equal(a.Funcs, b.Funcs)
}

func expectRight(t *testing.T, what string, u api.Unit, want api.Errno) {
	t.Helper()
	if e := unit.Right(u); e != want {
		t.Errorf("%s: Right is %d, not %d", what, e, want)
	}
	text, e := unit.Text(u)
	if want != api.OK && (e != want || text != "") {
		t.Errorf("%s: Text is %q, refusal %d, not %d", what, text, e, want)
	}
}

func expectText(t *testing.T, u api.Unit, want string) {
	t.Helper()
	if text, e := unit.Text(u); e != api.OK || text != want {
		t.Errorf("Text is %q, refusal %d, not %q", text, e, want)
	}
}

func expectParse(t *testing.T, s string, want api.Unit) {
	t.Helper()
	u, e := unit.Parse(s)
	if e != api.OK || !same(u, want) {
		t.Errorf("Parse(%.80q) is %v, refusal %d, not %v", s, u, e, want)
	}
}

func expectRefused(t *testing.T, s string, want api.Errno) {
	t.Helper()
	u, e := unit.Parse(s)
	if e != want || !same(u, api.Unit{}) {
		t.Errorf("Parse(%.80q) is %v, refusal %d, not %d", s, u, e, want)
	}
}

// P13.1

func TestRightSizes(t *testing.T) {
	for _, c := range []struct {
		pages, most int
		want        api.Errno
	}{
		{0, 0, api.OK}, {0, 1, api.OK}, {1, 1, api.OK}, {64, 64, api.OK}, {0, 64, api.OK}, {63, 64, api.OK},
		{-1, 0, api.ErrSize}, {-1, -1, api.ErrSize}, {1, 0, api.ErrSize}, {64, 63, api.ErrSize}, {0, 65, api.ErrSize}, {65, 65, api.ErrSize}, {65, 64, api.ErrSize}, {0, -1, api.ErrSize},
		{math.MinInt, math.MinInt, api.ErrSize}, {math.MaxInt, math.MaxInt, api.ErrSize}, {math.MinInt, math.MaxInt, api.ErrSize}, {0, math.MaxInt, api.ErrSize}, {math.MaxInt, 0, api.ErrSize},
	} {
		expectRight(t, "sizes", api.Unit{Pages: c.pages, Most: c.most}, c.want)
		expectRight(t, "sizes", api.Unit{Pages: c.pages, Most: c.most, Funcs: []api.Func{fn('a', 0, "1")}}, c.want)
	}
}

func TestRightFunctions(t *testing.T) {
	for n := range 33 {
		expectRight(t, "functions", of(named(n, "1")...), api.OK)
	}
	for _, n := range []int{33, 34, 100, 2000} {
		expectRight(t, "many functions", of(named(n, "1")...), api.ErrLong)
		expectRight(t, "many functions", of(make([]api.Func, n)...), api.ErrLong)
	}
	expectRight(t, "the room behind", of(append(named(32, "1"), fn('A', 9, "("))[:32]...), api.OK)
}

func TestRightNames(t *testing.T) {
	for _, r := range []rune{'a', 'z', 'q', 0x100, 'λ', 'π', '中', 0xD7FF, 0xE000, 0xFFFC, 0xFFFE, 0x10FFFF} {
		expectRight(t, "a name", of(fn(r, 0, "1")), api.OK)
		expectRight(t, "a name twice", of(fn(r, 0, "1"), fn(r, 1, "1")), api.ErrForm)
		expectRight(t, "a name twice", of(fn('b', 0, "1"), fn(r, 0, "1"), fn('c', 0, "1"), fn(r, 0, "1")), api.ErrForm)
	}
	for _, r := range []rune{'A', 'Z', '`', '{', '0', ' ', '\n', '+', 0, -1, 0xFF, 0xAB, 0xFFFD, 0xD800, 0xDFFF, 0x110000, math.MaxInt32, math.MinInt32} {
		expectRight(t, "no name", of(fn(r, 0, "1")), api.ErrForm)
		expectRight(t, "no name", of(fn('a', 0, "1"), fn(r, 0, "1")), api.ErrForm)
	}
}

func TestRightArgs(t *testing.T) {
	for args := range 5 {
		expectRight(t, "args", of(fn('a', args, "1")), api.OK)
	}
	for _, args := range []int{-1, 5, 6, 10, 256, math.MaxInt, math.MinInt} {
		expectRight(t, "args", of(fn('a', args, "1")), api.ErrForm)
		expectRight(t, "args", of(fn('b', 0, "1"), fn('a', args, "1")), api.ErrForm)
	}
}

func TestRightCodes(t *testing.T) {
	for _, c := range []struct {
		code string
		want api.Errno
	}{
		{"1", api.OK}, {"λa", api.OK}, {"1λb", api.OK}, {" 1  2 + ", api.OK}, {wide(512), api.OK},
		{wide(513), api.ErrLong}, {"(", api.ErrForm}, {"?", api.ErrNest}, {"", api.ErrStack}, {"1 2", api.ErrStack}, {"λb", api.ErrStack}, {"λc", api.ErrNone}, {"¡1", api.ErrDead},
	} {
		expectRight(t, c.code, of(fn('a', 0, c.code), fn('b', 1, "1")), c.want)
		expectRight(t, c.code, of(fn('b', 1, "1"), fn('a', 0, c.code)), c.want)
		expectRight(t, c.code, of(fn('b', 1, "1"), fn('a', 0, c.code), fn('d', 1, "1")), c.want)
	}
}

func TestRightOrder(t *testing.T) {
	many := make([]api.Func, 33)
	expectRight(t, "size first", api.Unit{Pages: 1, Funcs: many}, api.ErrSize)
	expectRight(t, "then their number", of(many...), api.ErrLong)
	// Names and Args of all of them are asked ahead of the first code.
	for _, bad := range []api.Func{fn('A', 0, "1"), fn('a', 0, "1"), fn('c', 5, "1"), fn('c', -1, "1")} {
		for _, code := range []string{"", "?", "λx", "¡1", wide(513)} {
			expectRight(t, "a late name", of(fn('a', 0, code), fn('b', 0, "1"), bad), api.ErrForm)
			expectRight(t, "an early name", of(fn('a', 0, "1"), bad, fn('b', 0, code)), api.ErrForm)
		}
	}
	// Of codes the first one that is refused.
	codes := map[string]api.Errno{"": api.ErrStack, "?": api.ErrNest, "λx": api.ErrNone, "¡1": api.ErrDead, wide(513): api.ErrLong, "(": api.ErrForm}
	for a, first := range codes {
		for b := range codes {
			expectRight(t, "two codes", of(fn('a', 0, a), fn('b', 0, b)), first)
			expectRight(t, "two codes", of(fn('c', 0, "1"), fn('a', 0, a), fn('b', 0, b)), first)
		}
	}
	expectRight(t, "size ahead of names", api.Unit{Pages: 1, Funcs: []api.Func{fn('A', 9, "")}}, api.ErrSize)
}

// P13.2: Text

func TestText(t *testing.T) {
	expectText(t, api.Unit{}, "unit 0 0\n")
	expectText(t, api.Unit{Funcs: []api.Func{}}, "unit 0 0\n")
	expectText(t, api.Unit{Pages: 7, Most: 64}, "unit 7 64\n")
	expectText(t, api.Unit{Pages: 1, Most: 20, Funcs: []api.Func{fn('p', 2, "a b+"), fn('λ', 4, "1")}}, "unit 1 20\np2 ab+\nλ4 1\n")
	expectText(t, of(fn('a', 0, "  1  2 +  ")), "unit 0 0\na0 1 2+\n")
	expectText(t, of(fn('a', 1, "007 a +"), fn('\U0010FFFF', 0, " 1 ? 2 : 3 ; ")), "unit 0 0\na1 7a+\n\U0010FFFF0 1?2:3;\n")
	expectText(t, of(fn('b', 3, " 1 2 3λb 4 5λb "), fn('a', 2, "1πb")), "unit 0 0\nb3 1 2 3λb4 5λb\na2 1πb\n")
}

func TestTextKeepsTheOrder(t *testing.T) {
	expectText(t, of(fn('z', 0, "1"), fn('a', 0, "2"), fn('m', 0, "3")), "unit 0 0\nz0 1\na0 2\nm0 3\n")
}

// long is a unit whose text has so many bytes.
func long(n int) api.Unit {
	return of(fn('a', 0, wide(512)), fn('b', 0, wide(512)), fn('c', 0, wide(512)), fn('d', 0, wide(n-1561)))
}

func TestTextThatIsLong(t *testing.T) {
	for _, n := range []int{2000, 2047, 2048} {
		text, e := unit.Text(long(n))
		if e != api.OK || len(text) != n {
			t.Errorf("Text of %d bytes: %d, refusal %d", n, len(text), e)
		}
		expectParse(t, text, long(n))
	}
	for _, n := range []int{2049, 2050, 2073} {
		if text, e := unit.Text(long(n)); e != api.ErrLong || text != "" {
			t.Errorf("Text of %d bytes: %d, refusal %d", n, len(text), e)
		}
		if e := unit.Right(long(n)); e != api.OK {
			t.Errorf("Right asks how long the text is: %d", e)
		}
	}
	// It is the text that is asked, not the codes as they were given.
	u := of(named(32, strings.Repeat(" ", 511)+"1")...)
	if text, e := unit.Text(u); e != api.OK || len(text) != 9+32*6 {
		t.Errorf("Text of blanks: %d, refusal %d", len(text), e)
	}
}

// P13.2: Parse

func TestParse(t *testing.T) {
	expectParse(t, "unit 0 0\n", api.Unit{})
	expectParse(t, "unit 10 64\n", api.Unit{Pages: 10, Most: 64})
	expectParse(t, "unit 1 20\np2 ab+\nλ4 1\n", api.Unit{Pages: 1, Most: 20, Funcs: []api.Func{fn('p', 2, "ab+"), fn('λ', 4, "1")}})
	expectParse(t, "unit 0 0\na0 1 2+\n\U0010FFFF1 λa\n", of(fn('a', 0, "1 2+"), fn('\U0010FFFF', 1, "λa")))
	expectParse(t, "unit 0 0\na0 9223372036854775807\n", of(fn('a', 0, "9223372036854775807")))
}

func TestParseOfOtherLines(t *testing.T) {
	for _, s := range []string{
		"", "\n", "\n\n", "unit", "unit\n", "unit \n", "unit 0\n", "unit 0 \n", "unit  0\n", "unit 0 0", "unit 0 0 \n", " unit 0 0\n", "unit  0 0\n", "unit 0  0\n", "Unit 0 0\n", "UNIT 0 0\n", "uni 0 0\n", "unitt 0 0\n", "unit 0 0 0\n",
		"unit 00 0\n", "unit 0 00\n", "unit 01 1\n", "unit 1 01\n", "unit -0 0\n", "unit +0 0\n", "unit -1 0\n", "unit 0 +1\n", "unit 0x1 1\n", "unit 1_0 64\n", "unit a 1\n", "unit 1 a\n", "unit 1.0 2\n", "unit 0,0\n", "unit\t0\t0\n", "unit 0 0\r\n",
		"unit 9223372036854775808 1\n", "unit 1 9223372036854775808\n", "unit 18446744073709551616 1\n", "unit 18446744073709551617 1\n", "unit 99999999999999999999999999 1\n", "unit 0 10000000000000000000\n", "unit ١ 1\n", "unit 1 /\n", "unit 1 :\n",
		"unit 0 0\n\n", "\nunit 0 0\n", "unit 0 0\na0 1", "unit 0 0\na0 1\n\n", "unit 0 0\n\na0 1\n", "a0 1\n", "a0 1\nunit 0 0\n",
		"unit 0 0\na\n", "unit 0 0\na0\n", "unit 0 0\na01\n", "unit 0 0\na 0 1\n", "unit 0 0\n0 1\n", "unit 0 0\na00 1\n", "unit 0 0\nab0 1\n", "unit 0 0\na- 1\n", "unit 0 0\na/ 1\n", "unit 0 0\na: 1\n", "unit 0 0\naA 1\n", "unit 0 0\na0\t1\n", "unit 0 0\na١ 1\n",
		"unit 0 0\na0 1\nb0 1", "unit 0 0\na0 1\nb0\n", "unit 0 0\na0 1\n b0 1\n", "unit 0 0\na0 1\r\n",
	} {
		expectRefused(t, s, api.ErrForm)
	}
}

func TestParseOfOtherLinesAheadOfRight(t *testing.T) {
	// Each of these lines is none that Text writes: that comes ahead of what Right says of the others.
	for _, line := range []string{"", "a", "a0", "a01", "a 0 1", "ab0 1", "aA 1", "a/ 1", "a: 1", "a-1 1", "a00 1", "a10 1", "a0\t1", "0 1", " 0", "\ufffd 1", "\ufffd", "\xff", "\xff 1", "\xff0", "\xffa 1", "\xff\xff0 1", "\xed\xa0\x800 1", "\xe4\xb80 1", "\xf0\x9f\x980 1", "λ 1", "λ", "\xcea0 1", "a\xff0 1", "a\xff 1"} {
		expectRefused(t, "unit 2 1\n"+line+"\n", api.ErrForm)
		expectRefused(t, "unit 0 0\nb0 ¡1\n"+line+"\n", api.ErrForm)
		expectRefused(t, "unit 0 0\n"+strings.Repeat("b0 1\n", 33)+line+"\n", api.ErrForm)
	}
	for _, line := range []string{
		"", "unit", "unit 2", "unit 2 ", "unit  1", "unit 2 1 ", "unit 2 1 0", " unit 2 1", "Unit 2 1", "uni 2 1", "units 2 1", "2 1", " 2 1", "unit 02 1", "unit 2 01", "unit 00 1", "unit 2 00", "unit 065 66", "unit -2 1", "unit 2 -1", "unit +2 1", "unit 2x 1", "unit 2 1x",
		"unit 2/ 1", "unit 2: 1", "unit / 1", "unit : 1", "unit 2 /", "unit 2 :", "unit 9223372036854775808 1", "unit 9223372036854775809 1", "unit 9223372036854775810 1", "unit 10000000000000000000 1", "unit 18446744073709551618 1", "unit 2 9223372036854775808", "unit 2 18446744073709551617", "unit 1x 0", "unit \xff 1", "unit 2 1\xff", "unit 2\x001 1",
	} {
		expectRefused(t, line+"\n", api.ErrForm)
		expectRefused(t, line+"\nb0 ¡1\n", api.ErrForm)
		expectRefused(t, line+"\n"+strings.Repeat("b0 1\n", 33), api.ErrForm)
	}
	expectRefused(t, "unit 2 1\na0 1", api.ErrForm)
	expectRefused(t, "unit 2 1", api.ErrForm)
}

func TestParseTakesWhatRightRefuses(t *testing.T) {
	for _, s := range []string{
		"unit 2 1\n", "unit 0 65\n", "unit 9223372036854775807 1\n", "unit 9223372036854775806 1\n", "unit 9223372036854775799 1\n", "unit 1 0\n", "unit 10 9\n", "unit 0 9223372036854775807\n", "unit 9223372036854775807 9223372036854775807\n", "unit 65 64\n", "unit 2 1\na0 1\n",
		"unit 2 1\na9 1\n", "unit 2 1\nA0 1\n", "unit 2 1\n 0 1\n", "unit 2 1\n00 1\n", "unit 2 1\n\x000 1\n", "unit 2 1\n\ufffd0 1\n", "unit 2 1\na5 \n", "unit 2 1\na0 \xff\xfe\n", "unit 2 1\na0 1  2\n", "unit 2 1\na0  \n", "unit 2 1\na0 a0 1\n",
	} {
		expectRefused(t, s, api.ErrSize)
	}
	expectRefused(t, "unit 0 0\n"+strings.Repeat("A9 (\n", 33), api.ErrLong)
	for _, c := range []struct {
		line string
		want api.Errno
	}{
		{"a5 1", api.ErrForm}, {"a9 1", api.ErrForm}, {"A0 1", api.ErrForm}, {" 0 1", api.ErrForm}, {"\ufffd0 1", api.ErrForm}, {"a0 (", api.ErrForm}, {"a0 \xff", api.ErrForm}, {"a0 " + wide(513), api.ErrLong}, {"a0 ?", api.ErrNest},
		{"a0 ", api.ErrStack}, {"a0  ", api.ErrStack}, {"a0 1 2", api.ErrStack}, {"a0 ¡1", api.ErrDead}, {"a0 λx", api.ErrNone}, {"a0 1\na0 1", api.ErrForm}, {"a0 1\nb0 ¡1\nc0 λx", api.ErrDead}, {"a0 1\nb0 ¡1\nc5 λx", api.ErrForm},
	} {
		expectRefused(t, "unit 0 0\n"+c.line+"\n", c.want)
	}
}

// A byte that begins no rune is a Name of one rune, U+FFFD: the line is one, and Right's refusals come in their order.
func TestParseOfABrokenName(t *testing.T) {
	broken := []string{"\ufffd"}
	for b := 0x80; b < 0x100; b++ {
		broken = append(broken, string([]byte{byte(b)}))
	}
	for _, name := range broken {
		line := name + "0 1\n"
		expectRefused(t, "unit 2 1\n"+line, api.ErrSize)
		expectRefused(t, "unit 0 65\n"+line, api.ErrSize)
		expectRefused(t, "unit 2 1\na0 1\n"+line+"b0 1\n", api.ErrSize)
		expectRefused(t, "unit 2 1\n"+name+"9 (\n", api.ErrSize)
		expectRefused(t, "unit 0 0\n"+strings.Repeat(line, 33), api.ErrLong)
		expectRefused(t, "unit 0 0\n"+strings.Repeat("a0 1\n", 32)+line, api.ErrLong)
		expectRefused(t, "unit 0 0\n"+line, api.ErrForm)
		expectRefused(t, "unit 0 0\n"+strings.Repeat(line, 32), api.ErrForm)
		expectRefused(t, "unit 0 0\na0 ¡1\n"+line, api.ErrForm)
		expectRefused(t, "unit 2 1\n"+line+"\n", api.ErrForm)
		expectRefused(t, "unit 2 1\n"+strings.Repeat(line, 600), api.ErrLong)
	}
}

func TestParseOfWhatTextWritesOtherwise(t *testing.T) {
	for _, line := range []string{"a0 1 ", "a0  1", "a0 1  2+", "a0 1 2 +", "a0 01", "a0 00", "a0 1 2+ ", "a0 007 8+", "a0 1? 2:3;", "a0 1 λb", "a0 1 !"} {
		expectRefused(t, "unit 0 0\n"+line+"\nb1 1\n", api.ErrForm)
		// Right's refusal comes first.
		expectRefused(t, "unit 0 0\n"+line+"\nb1 ¡1\n", api.ErrDead)
	}
}

func TestParseOfWhatIsLong(t *testing.T) {
	text, _ := unit.Text(long(2048))
	expectParse(t, text, long(2048))
	expectRefused(t, text+"\n", api.ErrLong)
	expectRefused(t, text[:2047], api.ErrForm)
	for _, s := range []string{strings.Repeat("x", 2049), "unit 0 0\n" + strings.Repeat(" ", 2040), strings.Repeat("\n", 5000), strings.Repeat("a0 1\n", 100000)} {
		expectRefused(t, s, api.ErrLong)
	}
	expectRefused(t, strings.Repeat("x", 2048), api.ErrForm)
	expectRefused(t, strings.Repeat("\n", 2048), api.ErrForm)
}

// P13.3

var codes = []string{"1", " 1  2+", "λa", "#", "1?2:3;", "[~]1", "1[2?~;]", "a b c d+++", "1πa", "1 2 3 4λb", "¡", "[]", "1A a", "0 0=", "9223372036854775807!", "1 . * @ 1 2 ® © ¤ « 007", "7π中"}

func TestParseOfTextIsTheUnit(t *testing.T) {
	taken := 0
	for i := range 2000 {
		u := api.Unit{Pages: i % 3, Most: 2 + i%63}
		for k := range i % 33 {
			u.Funcs = append(u.Funcs, fn([]rune("abcdefghijklmnopqrstuvwxyzλπ中Ā\uffff\U0010ffff")[k], (k*k+i+4*(i%2))%5, codes[(i*7+k*5)%len(codes)]))
		}
		text, e := unit.Text(u)
		if e != api.OK {
			continue
		}
		taken++
		want := api.Unit{Pages: u.Pages, Most: u.Most}
		for _, f := range u.Funcs {
			tokens, _ := glyph.Tokens(f.Code)
			want.Funcs = append(want.Funcs, fn(f.Name, f.Args, glyph.Text(tokens)))
		}
		expectParse(t, text, want)
	}
	if taken < 200 {
		t.Errorf("no more than %d units are taken", taken)
	}
}

// What is written otherwise by one byte is refused, or is another unit that is written just so.
func TestTurnedTexts(t *testing.T) {
	u := api.Unit{Pages: 1, Most: 12, Funcs: []api.Func{fn('a', 2, "1 2+?a:b;"), fn('中', 0, "1 2λa"), fn('b', 1, "[a?~;1A]1")}}
	text, e := unit.Text(u)
	if e != api.OK {
		t.Fatalf("refusal %d", e)
	}
	try := func(s string) {
		if got, e := unit.Parse(s); e == api.OK {
			if again, e := unit.Text(got); e != api.OK || again != s || unit.Right(got) != api.OK {
				t.Errorf("Parse takes %q", s)
			}
		} else if !same(got, api.Unit{}) {
			t.Errorf("Parse tells %v beside a refusal", got)
		}
	}
	for i := range text {
		try(text[:i])
		try(text[:i] + text[i+1:])
		for b := range 256 {
			try(text[:i] + string([]byte{byte(b)}) + text[i+1:])
			try(text[:i] + string([]byte{byte(b)}) + text[i:])
		}
	}
}

func TestCodesOfAUnitGoRight(t *testing.T) {
	for i, code := range codes {
		u := of(fn('a', 0, code), fn('b', 4, "1"))
		_, e := check.Func(u, 0)
		if got := unit.Right(u); got != e {
			t.Errorf("code %d: Right is %d, Func %d", i, got, e)
		}
	}
}

// Same

func TestSame(t *testing.T) {
	u := api.Unit{Pages: 1, Most: 2, Funcs: []api.Func{fn('a', 0, "1"), fn('b', 1, "2")}}
	if !unit.Same(u, api.Unit{Pages: 1, Most: 2, Funcs: slices.Clone(u.Funcs)}) || !unit.Same(api.Unit{}, api.Unit{Funcs: []api.Func{}}) {
		t.Error("alike ones are not Same")
	}
	for i, v := range []api.Unit{
		{}, {Pages: 0, Most: 2, Funcs: u.Funcs}, {Pages: 1, Most: 3, Funcs: u.Funcs}, {Pages: 1, Most: 2}, {Pages: 1, Most: 2, Funcs: u.Funcs[:1]}, {Pages: 1, Most: 2, Funcs: []api.Func{fn('b', 1, "2"), fn('a', 0, "1")}},
		{Pages: 1, Most: 2, Funcs: []api.Func{fn('a', 0, "1"), fn('c', 1, "2")}}, {Pages: 1, Most: 2, Funcs: []api.Func{fn('a', 0, "1"), fn('b', 2, "2")}}, {Pages: 1, Most: 2, Funcs: []api.Func{fn('a', 0, "1"), fn('b', 1, "3")}},
	} {
		if unit.Same(u, v) || unit.Same(v, u) {
			t.Errorf("case %d is Same", i)
		}
	}
}

// R2

func TestWhatIsHandedInStays(t *testing.T) {
	u := api.Unit{Most: 1, Funcs: append(named(3, " 1 2 + "), fn('a', 9, "("))[:3]}
	given := slices.Clone(u.Funcs[:4])
	first, _ := unit.Text(u)
	unit.Right(u)
	unit.Same(u, u)
	if !slices.Equal(u.Funcs[:4], given) {
		t.Error("the argument is changed")
	}
	got, _ := unit.Parse(first)
	got.Funcs = got.Funcs[:cap(got.Funcs)]
	for i := range got.Funcs {
		got.Funcs[i] = fn('x', 9, strconv.Itoa(i))
	}
	expectParse(t, first, api.Unit{Most: 1, Funcs: named(3, "1 2+")})
}
