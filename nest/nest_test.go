package nest_test

import (
	"math"
	"slices"
	"strings"
	"testing"

	"engram/api"
	"engram/glyph"
	"engram/nest"
)

// read is the tokens of a code, as long as it may be.
func read(t *testing.T, code string) []api.Token {
	t.Helper()
	l, e := glyph.Tokens(code)
	if e != api.OK {
		t.Fatalf("Tokens(%q): refusal %d", code, e)
	}
	return l
}

// row is a token a rune.
func row(s string) []api.Token {
	var l []api.Token
	for _, r := range s {
		l = append(l, api.Token{Sign: r})
	}
	return l
}

func expectOf(t *testing.T, s string, l []api.Token, deep int, want ...int) {
	t.Helper()
	if to, e := nest.Of(l); e != api.OK || !slices.Equal(to, want) {
		t.Errorf("Of(%.60q) is %v, refusal %d, not %v", s, to, e, want)
	}
	if got := nest.Deep(l); got != deep {
		t.Errorf("Deep(%.60q) is %d, not %d", s, got, deep)
	}
}

func expectRefused(t *testing.T, s string) {
	t.Helper()
	if to, e := nest.Of(row(s)); e != api.ErrNest || len(to) != 0 {
		t.Errorf("Of(%.60q) is %v, refusal %d", s, to, e)
	}
	if got := nest.Deep(row(s)); got != -1 {
		t.Errorf("Deep(%.60q) is %d", s, got)
	}
}

// P8.1

func TestOf(t *testing.T) {
	for _, c := range []struct {
		code string
		deep int
		want []int
	}{
		{"", 0, nil},
		{"1", 0, []int{-1}},
		{"1 2+λaπb", 0, []int{-1, -1, -1, -1, -1}},
		{"[~]", 1, []int{-1, 3, 0}},
		{"?:;", 1, []int{2, 2, -1}},
		{"?;", 1, []int{1, -1}},
		{"[]", 1, []int{-1, 0}},
		{"1?2:3;4", 1, []int{-1, 4, -1, 5, -1, -1, -1}},
		{"1?2;4", 1, []int{-1, 3, -1, -1, -1}},
		{"?;?:;[]", 1, []int{1, -1, 4, 4, -1, -1, 5}},
		{"[[~]~]", 2, []int{-1, -1, 4, 1, 6, 0}},
		{"[~[~]~]", 2, []int{-1, 7, -1, 5, 2, 7, 0}},
		{"[~~~]1", 1, []int{-1, 5, 5, 5, 0, -1}},
		{"[?~;]", 2, []int{-1, 3, 5, -1, 0}},
		{"[?~:~;?~;]1", 2, []int{-1, 4, 10, 5, 10, -1, 8, 10, -1, 0, -1}},
		{"[?[~]~:;]", 3, []int{-1, 7, -1, 5, 2, 9, 7, -1, 0}},
		{"?[~]:[~];", 2, []int{5, -1, 4, 1, 8, -1, 8, 5, -1}},
		{"??:;:?:;;", 2, []int{5, 3, 3, -1, 8, 7, 7, -1, -1}},
		{"?;[][?;]", 2, []int{1, -1, -1, 2, -1, 6, -1, 4}},
		{"[~][~]", 1, []int{-1, 3, 0, -1, 6, 3}},
		{"???;;;", 3, []int{5, 4, 3, -1, -1, -1}},
	} {
		expectOf(t, c.code, read(t, c.code), c.deep, c.want...)
	}
}

func TestOfWhatDoesNotMatch(t *testing.T) {
	for _, s := range []string{
		"?", ":", ";", "[", "]", "~", "1?2", "1;", "1]", ":;", "?:", "?:1", "[~", "~]", "~[]", "[]~", "[~]~", "?~;", "?~:;", "?:~;", "?[]~;",
		"?::;", "?:1:2;", "?:?:;:;", "?[:];", "[:]", "[;]", "?]", "[?]", "[?];", "?[;]", "?[;", "?:];", "?;;", "?;:", "[]]", "[[]", "?;]", "[?:]", "[?:];", ";?", "][", ":?;", "?:;:;",
		"[]?", "?;[", "?[", "[?", "[?;", "??;", "a~b", "[]:", "?[]:", "[?;:]",
	} {
		expectRefused(t, s)
	}
}

func TestOthersGoNowhere(t *testing.T) {
	for r := rune(-300); r < 70000; r++ {
		if strings.ContainsRune("?:;[]~", r) {
			continue
		}
		if to, e := nest.Of([]api.Token{{Sign: r, N: 5, Name: '?'}}); e != api.OK || !slices.Equal(to, []int{-1}) {
			t.Errorf("Of %#x is %v, refusal %d", r, to, e)
		}
	}
	for _, r := range []rune{math.MinInt32, math.MaxInt32, 1<<16 + '?', 1<<24 + '[', 1<<16 + ';'} {
		expectOf(t, "strange", []api.Token{{Sign: r}}, 0, -1)
	}
}

func TestTheSignAloneIsAsked(t *testing.T) {
	expectOf(t, "[~]", []api.Token{{Sign: '[', N: 1, Name: ']'}, {Sign: '~', N: 7, Name: '?'}, {Sign: ']', N: -1, Name: '['}}, 1, -1, 3, 0)
	expectOf(t, "0λ", []api.Token{{Sign: '0', N: '['}, {Sign: 'λ', Name: '['}, {Sign: 'π', Name: ';'}}, 0, -1, -1, -1)
}

// deeper is n parts that lie in each other, ifs and loops by turns from the first bit of kinds on.
func deeper(n, kinds int) string {
	open, shut := "", ""
	for i := range n {
		if kinds>>(i%8)&1 == 1 {
			open, shut = open+"?", ";"+shut
		} else {
			open, shut = open+"[", "]"+shut
		}
	}
	return open + shut
}

func TestDepth(t *testing.T) {
	for kinds := range 256 {
		for n := range 17 {
			s := deeper(n, kinds)
			if got := nest.Deep(row(s)); got != n {
				t.Errorf("Deep(%q) is %d", s, got)
			}
			if to, e := nest.Of(row(s)); e != api.OK || len(to) != 2*n {
				t.Errorf("Of(%q) is %v, refusal %d", s, to, e)
			}
		}
		expectRefused(t, deeper(17, kinds))
		expectRefused(t, "?;"+deeper(17, kinds))
		expectRefused(t, deeper(16, kinds)[:16]+"[]"+deeper(16, kinds)[16:])
		expectRefused(t, deeper(16, kinds)[:16]+"?;"+deeper(16, kinds)[16:])
	}
	expectRefused(t, deeper(1000, 5))
	if got := nest.Deep(row(deeper(3, 0) + deeper(16, 5) + deeper(2, 1))); got != 16 {
		t.Errorf("Deep of one behind the other is %d", got)
	}
	if got := nest.Deep(row(deeper(2, 0) + deeper(1, 5))); got != 2 {
		t.Errorf("Deep of one behind the other is %d", got)
	}
}

func TestAHalfIsNoDepth(t *testing.T) {
	s := strings.Repeat("?:", 16) + strings.Repeat(";", 16)
	if got := nest.Deep(row(s)); got != 16 {
		t.Errorf("Deep(%q) is %d", s, got)
	}
	expectRefused(t, "?:"+s+";")
}

func TestLeavesGoBehindTheLoopThroughIfs(t *testing.T) {
	s := "[" + strings.Repeat("?", 15) + "~" + strings.Repeat(";", 15) + "]+"
	to, e := nest.Of(row(s))
	if e != api.OK || to[16] != 33 || to[32] != 0 || to[1] != 31 || to[15] != 17 {
		t.Errorf("Of(%q) is %v, refusal %d", s, to, e)
	}
}

// Long rows match too: nothing but the depth is bounded.
func TestLongRows(t *testing.T) {
	n := 20000
	s := strings.Repeat("[~?:;]", n)
	to, e := nest.Of(row(s))
	if e != api.OK || len(to) != 6*n {
		t.Fatalf("refusal %d of %d", e, len(to))
	}
	for i := 0; i < n; i++ {
		at := 6 * i
		if !slices.Equal(to[at:at+6], []int{-1, at + 6, at + 4, at + 4, -1, at}) {
			t.Fatalf("part %d goes to %v", i, to[at:at+6])
		}
	}
	s = "[" + strings.Repeat("~", n) + "]"
	to, _ = nest.Of(row(s))
	for i := 1; i <= n; i++ {
		if to[i] != n+2 {
			t.Fatalf("~ %d goes to %d", i, to[i])
		}
	}
}

// goes is where a token goes, found by looking for it from the token on: a second way to the same.
func goes(s []rune, i int) int {
	depth, half := 0, -1
	switch s[i] {
	case '?', ':':
		for j := i + 1; ; j++ {
			switch {
			case s[j] == '?' || s[j] == '[':
				depth++
			case depth > 0 && (s[j] == ';' || s[j] == ']'):
				depth--
			case depth == 0 && s[j] == ':':
				half = j + 1
			case depth == 0 && s[j] == ';':
				if half >= 0 {
					return half
				}
				return j
			}
		}
	case ']':
		for j := i - 1; ; j-- {
			switch s[j] {
			case ']', ';':
				depth++
			case '?':
				depth--
			case '[':
				if depth == 0 {
					return j
				}
				depth--
			}
		}
	case '~':
		for j := i + 1; ; j++ {
			switch s[j] {
			case '?', '[':
				depth++
			case ';':
				// An if round it may end ahead of the loop.
				depth = max(depth-1, 0)
			case ']':
				if depth == 0 {
					return j + 1
				}
				depth--
			}
		}
	}
	return -1
}

func TestEachShortRow(t *testing.T) {
	signs := []rune("?:;[]~+")
	matched := 0
	for n := range 7 {
		s := make([]rune, n)
		for k, all := 0, power(7, n); k < all; k++ {
			for i, rest := 0, k; i < n; i, rest = i+1, rest/7 {
				s[i] = signs[rest%7]
			}
			to, e := nest.Of(row(string(s)))
			if e != api.OK {
				continue
			}
			matched++
			for i := range s {
				if want := goes(s, i); to[i] != want {
					t.Fatalf("Of(%q) goes from %d to %d, not %d", string(s), i, to[i], want)
				}
			}
		}
	}
	if matched != countMatched(6) {
		t.Errorf("%d rows match, not %d", matched, countMatched(6))
	}
}

func power(b, n int) int {
	p := 1
	for range n {
		p *= b
	}
	return p
}

// countMatched counts the rows of up to n of ? : ; [ ] ~ + that match, by how they are built: a row is items; an item is +, ~ (in a loop), an if or a loop.
func countMatched(n int) int {
	sum := 0
	for i := range n + 1 {
		sum += rows(i, false)
	}
	return sum
}

func rows(n int, loop bool) int {
	if n == 0 {
		return 1
	}
	sum := rows(n-1, loop) // + first
	if loop {
		sum += rows(n-1, loop) // ~ first
	}
	for inner := 0; inner+2 <= n; inner++ {
		behind := rows(n-2-inner, loop)
		sum += (rows(inner, true) + rows(inner, loop)) * behind // a loop, an if
		for half := 0; half+1 <= inner; half++ {
			sum += rows(half, loop) * rows(inner-1-half, loop) * behind // an if with :
		}
	}
	return sum
}

// R2

func TestWhatIsHandedInStays(t *testing.T) {
	l := append(row("[~]"), row("?;]")...)[:3]
	given := slices.Clone(l[:6])
	first, _ := nest.Of(l)
	nest.Deep(l)
	if !slices.Equal(l[:6], given) {
		t.Error("the argument is changed")
	}
	first = first[:cap(first)]
	for i := range first {
		first[i] = 99
	}
	expectOf(t, "[~]", l, 1, -1, 3, 0)
	expectOf(t, "nothing", []api.Token{}, 0)
	expectOf(t, "nothing", nil, 0)
}
