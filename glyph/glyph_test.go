package glyph_test

import (
	"math"
	"slices"
	"strings"
	"testing"

	"engram/api"
	"engram/glyph"
)

func num(n int64) api.Token { return api.Token{Sign: '0', N: n} }

func sign(r rune) api.Token { return api.Token{Sign: r} }

func named(r, name rune) api.Token { return api.Token{Sign: r, Name: name} }

// signs is each token of a text of signs that have neither number nor name.
func signs(s string) []api.Token {
	var l []api.Token
	for _, r := range s {
		l = append(l, sign(r))
	}
	return l
}

// marks are the signs beside the letters, by their numbers.
var marks = []rune{
	0x2B, 0x2D, 0x2A, 0x2F, 0x25, 0x26, 0x7C, 0x5E, 0x3C, 0x3D, 0x21, 0x2E, 0x2C, 0x40, 0x24, 0x23, 0x3F, 0x3A, 0x3B, 0x5B, 0x5D, 0x7E,
	0xAB, 0xBB, 0xA9, 0xAE, 0xA4, 0xA1, 0x3BB, 0x3C0,
}

// eachRune does f with all runes, and what lies round them.
func eachRune(f func(r rune)) {
	for r := rune(-70000); r < 0x120000; r++ {
		f(r)
	}
	for _, r := range []rune{math.MinInt32, math.MinInt32 + 'a', math.MaxInt32 - 1, math.MaxInt32, 1<<21 + 'a', 1<<24 + 'a'} {
		f(r)
	}
}

func expectTokens(t *testing.T, code string, want ...api.Token) {
	t.Helper()
	if l, e := glyph.Tokens(code); e != api.OK || !slices.Equal(l, want) {
		t.Errorf("Tokens(%q) are %v, %v, not %v", code, l, e, want)
	}
}

func expectRefused(t *testing.T, code string, want api.Errno) {
	t.Helper()
	if l, e := glyph.Tokens(code); e != want || len(l) != 0 {
		t.Errorf("Tokens(%.40q) are %v, refusal %d, not %d", code, l, e, want)
	}
}

func expectText(t *testing.T, want string, l ...api.Token) {
	t.Helper()
	if got := glyph.Text(l); got != want {
		t.Errorf("Text(%v) is %q, not %q", l, got, want)
	}
}

// P7.1: Name

func TestName(t *testing.T) {
	eachRune(func(r rune) {
		want := r >= 0x61 && r <= 0x7A || r >= 0x100 && r <= 0xD7FF || r >= 0xE000 && r <= 0xFFFC || r >= 0xFFFE && r <= 0x10FFFF
		if got := glyph.Name(r); got != want {
			t.Errorf("Name(%#x) is %v", r, got)
		}
	})
}

// P7.1: Known

func TestKnown(t *testing.T) {
	eachRune(func(r rune) {
		want := r >= 0x61 && r <= 0x7A || r >= 0x41 && r <= 0x5A || slices.Contains(marks, r)
		if got := glyph.Known(r); got != want {
			t.Errorf("Known(%#x) is %v", r, got)
		}
	})
}

// P7.1: Tokens

func TestTokens(t *testing.T) {
	expectTokens(t, "")
	expectTokens(t, "    ")
	expectTokens(t, "12 3+", num(12), num(3), sign('+'))
	expectTokens(t, "a", sign('a'))
	expectTokens(t, "  zA Z ", sign('z'), sign('A'), sign('Z'))
	expectTokens(t, "λf", named('λ', 'f'))
	expectTokens(t, "πf", named('π', 'f'))
	expectTokens(t, "1?2:3;", num(1), sign('?'), num(2), sign(':'), num(3), sign(';'))
	expectTokens(t, "[~]", sign('['), sign('~'), sign(']'))
	all := "+-*/%&|^<=!.,@$#?:;[]~«»©®¤¡abcdefghijklmnopqrstuvwxyzABCDEFGHIJKLMNOPQRSTUVWXYZ"
	expectTokens(t, all, signs(all)...)
	expectTokens(t, strings.Join(strings.Split(all, ""), "  "), signs(all)...)
}

func TestNumbers(t *testing.T) {
	expectTokens(t, "0", num(0))
	expectTokens(t, "00", num(0))
	expectTokens(t, "0 0", num(0), num(0))
	expectTokens(t, "007", num(7))
	expectTokens(t, "1234567890", num(1234567890))
	expectTokens(t, "9876543210", num(9876543210))
	expectTokens(t, "1 2  3", num(1), num(2), num(3))
	expectTokens(t, "1+2", num(1), sign('+'), num(2))
	expectTokens(t, "1λa2", num(1), named('λ', 'a'), num(2))
	expectTokens(t, "-5", sign('-'), num(5))
	expectTokens(t, "9223372036854775807", num(math.MaxInt64))
	expectTokens(t, "9223372036854775806", num(math.MaxInt64-1))
	expectTokens(t, "9223372036854775799 8", num(9223372036854775799), num(8))
	expectTokens(t, "922337203685477580 7", num(922337203685477580), num(7))
	expectTokens(t, strings.Repeat("0", 480)+"9223372036854775807", num(math.MaxInt64))
	for _, code := range []string{
		"9223372036854775808", "9223372036854775809", "9223372036854775810", "9223372036854775900", "9223372036854776000",
		"10000000000000000000", "18446744073709551615", "18446744073709551616", "18446744073709551617", "92233720368547758070",
		"09223372036854775808", "1+9223372036854775808", "9223372036854775808 1", "99999999999999999999999999999999999999",
		"184467440737095516160", "36893488147419103232", strings.Repeat("9", 512),
	} {
		expectRefused(t, code, api.ErrForm)
	}
}

func TestNames(t *testing.T) {
	for _, name := range []rune{'a', 'q', 'z', 0x100, 'λ', 'π', '中', 0x2028, 0xD7FF, 0xE000, 0xFFFC, 0xFFFE, 0xFFFF, 0x10000, 0x1F600, 0x10FFFF} {
		expectTokens(t, "λ"+string(name), named('λ', name))
		expectTokens(t, "π"+string(name), named('π', name))
		expectTokens(t, "1π"+string(name)+"1", num(1), named('π', name), num(1))
	}
	expectTokens(t, "λλλ中", named('λ', 'λ'), named('λ', '中'))
	expectTokens(t, "λπa", named('λ', 'π'), sign('a'))
	expectTokens(t, "λaa λa a", named('λ', 'a'), sign('a'), named('λ', 'a'), sign('a'))
	for _, code := range []string{
		"λ", "π", "aλ", "1 2π", "λ ", "π ", "λ a", "π  a", "λA", "πZ", "λ1", "π0", "λ+", "λ;", "λ«", "πÿ", "λ\u00ff", "λ{", "λ`", "λ\n", "λ\x00",
		"λ\ufffd", "π\ufffd", "λ\xff", "π\x80", "λ\xcea", "λ\xed\xa0\x80", "λ\xf4\x90\x80\x80", "λaλ", "πππ",
	} {
		expectRefused(t, code, api.ErrForm)
	}
}

func TestRunesThatAreNoSigns(t *testing.T) {
	for _, r := range []rune{
		'>', '(', ')', '{', '}', '_', '"', '\'', '\\', '`', '\t', '\n', '\r', 0, 1, 0x7F, 0x80, 0xA0, 0xA2, 0xAC, 0xAD, 0xBA, 0xFF, 0x100,
		'μ', 'ρ', 0x3BC, 0x3BF, 0x3C1, '中', 0x2028, 0x3000, 0xFFFD, 0xFEFF, 0x661, 0xFF11, 0x10FFFF,
	} {
		expectRefused(t, string(r), api.ErrForm)
		expectRefused(t, "1 2+"+string(r), api.ErrForm)
		expectRefused(t, string(r)+"1 2+", api.ErrForm)
	}
	eachRune(func(r rune) {
		if r < 0 || r > 0x10FFFF || r >= 0xD800 && r < 0xE000 {
			return
		}
		_, e := glyph.Tokens(string(r))
		good := r == ' ' || r >= '0' && r <= '9' || r != 'λ' && r != 'π' && glyph.Known(r)
		if good != (e == api.OK) || !good && e != api.ErrForm {
			t.Errorf("Tokens of rune %#x: refusal %d", r, e)
		}
	})
}

func TestBytesThatBeginNoRune(t *testing.T) {
	for _, code := range []string{"\x80", "\xff", "\xfe", "\xce", "\xc2", "1\xce", "\xce1", "\xc0\x80", "\xc1\xa1", "\xed\xa0\x80", "\xf4\x90\x80\x80", "\xf0\x9f", "a\xabb", "\xa9", "\xbb"} {
		expectRefused(t, code, api.ErrForm)
	}
	for b := 0x80; b < 0x100; b++ {
		expectRefused(t, string([]byte{byte(b)}), api.ErrForm)
	}
}

func TestLongCodes(t *testing.T) {
	expectTokens(t, strings.Repeat("+", api.MaxCode), signs(strings.Repeat("+", 512))...)
	expectTokens(t, strings.Repeat("«", 256), signs(strings.Repeat("«", 256))...)
	expectTokens(t, strings.Repeat(" ", 512))
	expectTokens(t, strings.Repeat(" ", 511)+"7", num(7))
	for _, code := range []string{
		strings.Repeat("+", 513), strings.Repeat(" ", 513), strings.Repeat("«", 256) + "1", strings.Repeat("«", 257), strings.Repeat("«", 400),
		strings.Repeat("1", 513), strings.Repeat("\xff", 513), "(" + strings.Repeat("+", 512), strings.Repeat("+", 512) + "λ", strings.Repeat("a", 100000),
	} {
		expectRefused(t, code, api.ErrLong)
	}
	expectRefused(t, strings.Repeat("\xff", 512), api.ErrForm)
	expectRefused(t, strings.Repeat("+", 511)+"(", api.ErrForm)
	expectRefused(t, strings.Repeat("+", 510)+"λ", api.ErrForm)
}

// P7.1: Text

func TestText(t *testing.T) {
	expectText(t, "")
	expectText(t, "12 3+", num(12), num(3), sign('+'))
	expectText(t, "1 2 3", num(1), num(2), num(3))
	expectText(t, "1+2", num(1), sign('+'), num(2))
	expectText(t, "a1b", sign('a'), num(1), sign('b'))
	expectText(t, "0 0", num(0), num(0))
	expectText(t, "9223372036854775807", num(math.MaxInt64))
	expectText(t, "0 0+0", num(-1), num(math.MinInt64), sign('+'), num(-77))
	expectText(t, "λf1πg2 3", named('λ', 'f'), num(1), named('π', 'g'), num(2), num(3))
	expectText(t, "λλπ中", named('λ', 'λ'), named('π', '中'))
	expectText(t, "λ\U0010FFFFπĀ", named('λ', 0x10FFFF), named('π', 0x100))
	all := "+-*/%&|^<=!.,@$#?:;[]~«»©®¤¡abcdefghijklmnopqrstuvwxyzABCDEFGHIJKLMNOPQRSTUVWXYZ"
	expectText(t, all, signs(all)...)
}

func TestTextOfWhatATokenHasBeside(t *testing.T) {
	expectText(t, "+", api.Token{Sign: '+', N: 5, Name: 'x'})
	expectText(t, "5", api.Token{Sign: '0', N: 5, Name: 'x'})
	expectText(t, "λx", api.Token{Sign: 'λ', N: 5, Name: 'x'})
	expectText(t, "a", api.Token{Sign: 'a', N: 5, Name: 'x'})
}

func TestTextLeavesOut(t *testing.T) {
	for _, out := range []api.Token{
		{}, sign('1'), sign('9'), sign(' '), sign('('), sign('>'), sign(-1), sign('中'), sign(0xFFFD), sign(0xD800), sign(math.MaxInt32), sign(math.MinInt32),
		sign('λ'), sign('π'), named('λ', 'A'), named('π', '1'), named('λ', ' '), named('λ', 0xFF), named('π', 0xFFFD), named('λ', 0xD800), named('λ', 0x110000), named('λ', -5), named('中', 'a'),
		{Sign: '5', N: 5}, {Sign: 0, N: 5, Name: 'a'},
	} {
		expectText(t, "", out)
		expectText(t, "ab", sign('a'), out, sign('b'))
		expectText(t, "1+", num(1), out, sign('+'))
		expectText(t, "+1", sign('+'), out, num(1))
		expectText(t, "1 2", num(1), out, num(2))
		expectText(t, "1 2", out, num(1), out, out, num(2), out)
		expectText(t, "1a2", num(1), out, sign('a'), out, num(2))
	}
}

func TestTextIsReadAsItself(t *testing.T) {
	for _, code := range []string{"", "12 3+", "1 2 3", "1  2 +", " a A. ,", "λf πg 12λa", "1?2:3;[~]", "«»©®¤¡", "007 08"} {
		l, _ := glyph.Tokens(code)
		expectTokens(t, glyph.Text(l), l...)
	}
	// A long row of each two signs behind each other.
	var all []api.Token
	kinds := append(signs("aA+;¤"), num(0), num(45), named('λ', 'a'), named('π', '中'))
	for _, a := range kinds {
		for _, b := range kinds {
			all = append(all, a, b)
		}
	}
	expectTokens(t, glyph.Text(all), all...)
}

// R2, R4

func TestWhatIsHandedInStays(t *testing.T) {
	l := append([]api.Token{num(1), num(-2), sign('('), named('λ', 'A')}, sign('a'), sign('b'))[:4]
	given := slices.Clone(l[:6])
	glyph.Text(l)
	if !slices.Equal(l[:6], given) {
		t.Errorf("Text changes its argument: %v", l[:6])
	}
	if glyph.Text(l) != "1 0" || glyph.Text([]api.Token{}) != "" || glyph.Text(nil) != "" {
		t.Error("Text reads the room behind")
	}
	first, _ := glyph.Tokens("1 2+")
	first = first[:cap(first)]
	for i := range first {
		first[i] = sign('x')
	}
	expectTokens(t, "1 2+", num(1), num(2), sign('+'))
}
