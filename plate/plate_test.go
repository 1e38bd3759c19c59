package plate_test

import (
	"bytes"
	"math"
	"slices"
	"strings"
	"testing"

	"engram/api"
	"engram/delta"
	"engram/plate"
	"engram/shade"
	"engram/unit"
)

func of(pages, most int, l ...api.Func) api.Unit {
	return api.Unit{Pages: pages, Most: most, Funcs: l}
}

func fn(name rune, args int, code string) api.Func {
	return api.Func{Name: name, Args: args, Code: code}
}

// sized is a unit whose text is as long as is asked, 13 bytes and more.
func sized(t *testing.T, pages, most, long int) api.Unit {
	t.Helper()
	head := len("unit 1 3\n")
	u := of(pages, most)
	for k, left := 0, long-head; left > 0; k++ {
		n := min(left-4, 500)
		if rest := left - 4 - n; rest > 0 && rest < 5 {
			n -= 5
		}
		left -= 4 + n
		code := strings.Repeat("aA", n/2) + "a"
		if n%2 == 0 {
			code = strings.Repeat("aA", n/2-1) + "a!"
		}
		u.Funcs = append(u.Funcs, fn(rune('a'+k), 0, code[:n]))
	}
	if text, e := unit.Text(u); e != api.OK || len(text) != long {
		t.Fatalf("a text of %d bytes, refusal %d, not %d", len(text), e, long)
	}
	return u
}

func text(t *testing.T, u api.Unit) string {
	t.Helper()
	s, e := unit.Text(u)
	if e != api.OK {
		t.Fatalf("Text: %d", e)
	}
	return s
}

// laid is so many pages, of which those of the unit stand there, and the others hold what they are filled with.
func laid(t *testing.T, u api.Unit, pages int, fill byte) [][]byte {
	t.Helper()
	l, e := plate.Put(u, pages)
	if e != api.OK {
		t.Fatalf("Put: %d", e)
	}
	return shade.Apply(slices.Repeat([][]byte{bytes.Repeat([]byte{fill}, api.Sector)}, pages), l)
}

// refused are units that unit.Text refuses, and why.
func refused() map[api.Errno]api.Unit {
	long := of(0, 0)
	for i := range 5 {
		long.Funcs = append(long.Funcs, fn(rune('a'+i), 0, strings.Repeat("aA", 200)+"a"))
	}
	long.Funcs = append(long.Funcs, fn('z', 0, strings.Repeat("aA", 20)+"a"))
	return map[api.Errno]api.Unit{api.ErrSize: of(2, 1), api.ErrForm: of(0, 1, fn('F', 0, "1")), api.ErrStack: of(0, 1, fn('f', 0, "+")), api.ErrNest: of(0, 1, fn('f', 0, "?")), api.ErrDead: of(0, 1, fn('f', 0, "¡1")), api.ErrNone: of(0, 1, fn('f', 0, "λg")), api.ErrLong: long}
}

// P20.1: Pages, Need

func TestPages(t *testing.T) {
	for n, want := range map[int]int{0: 0, 1: 1, 63: 1, 64: 1, 65: 2, 127: 2, 128: 2, 129: 3, 2048: 32, 2049: 33, 100000: 1563} {
		if got := plate.Pages(strings.Repeat("x", n)); got != want {
			t.Errorf("Pages of %d bytes: %d, not %d", n, got, want)
		}
	}
	if plate.Pages(strings.Repeat("é", 33)) != 2 {
		t.Error("Pages counts no bytes")
	}
}

func TestNeed(t *testing.T) {
	for _, c := range []struct {
		u    api.Unit
		want int
	}{
		{of(0, 0), 2}, {of(0, 5), 7}, {of(5, 5), 7}, {of(0, 64), 66}, {sized(t, 1, 3, 64), 5}, {sized(t, 1, 3, 65), 6}, {sized(t, 1, 3, 128), 6}, {sized(t, 1, 3, 129), 7}, {sized(t, 0, 0, 2048), 33},
	} {
		if got := plate.Need(c.u); got != c.want {
			t.Errorf("Need of %q: %d, not %d", text(t, c.u), got, c.want)
		}
	}
	for e, u := range refused() {
		if _, why := unit.Text(u); why != e || plate.Need(u) != 0 {
			t.Errorf("Need of what is refused by %d, %d: %d", e, why, plate.Need(u))
		}
	}
}

// P20.1: Put

func TestPut(t *testing.T) {
	u := of(2, 5, fn('f', 2, "ab+"), fn('世', 0, "1 2λf"), fn('g', 1, "a?1 2+:3;"), fn('h', 1, "a.*.*.*.*.*.*.*.*.*.*.*"))
	s := text(t, u)
	for _, pages := range []int{8, 9, 64} {
		if plate.Need(u) != 8 {
			t.Fatalf("Need is %d", plate.Need(u))
		}
		got, e := plate.Put(u, pages)
		want := []api.Change{{Page: 0, B: shade.Meta(len(s), 2)}, {Page: 1, B: []byte(s[:64])}, {Page: 2, B: append([]byte(s[64:]), make([]byte, 128-len(s))...)}, {Page: 3, B: make([]byte, 64)}, {Page: 4, B: make([]byte, 64)}}
		if e != api.OK || !delta.Same(got, want) || !delta.Right(got, pages) {
			t.Errorf("Put into %d: %v, refusal %d", pages, got, e)
		}
	}
}

func TestPutAtItsEdges(t *testing.T) {
	for _, c := range []struct {
		u       api.Unit
		changes int
	}{
		{of(0, 0), 2}, {of(0, 9), 2}, {of(9, 9), 11}, {of(62, 62), 64}, {of(0, 62), 2}, {sized(t, 1, 3, 63), 3}, {sized(t, 1, 3, 64), 3}, {sized(t, 1, 3, 65), 4}, {sized(t, 2, 3, 2048), 35},
	} {
		need := plate.Need(c.u)
		got, e := plate.Put(c.u, need)
		if e != api.OK || len(got) != c.changes || !delta.Right(got, need) {
			t.Errorf("Put of Need %d: %d changes, refusal %d", need, len(got), e)
		}
		for _, pages := range []int{need - 1, 1, 0, -1, math.MinInt, api.MaxPages + 1, math.MaxInt} {
			if got, e := plate.Put(c.u, pages); e != api.ErrSize || len(got) > 0 {
				t.Errorf("Put of Need %d into %d: %d changes, refusal %d", need, pages, len(got), e)
			}
		}
	}
	// The memory alone would go in, its text does not.
	if got, e := plate.Put(of(0, 63), 64); e != api.ErrSize || len(got) > 0 {
		t.Errorf("Put of too great a Most: %d", e)
	}
}

func TestPutRefuses(t *testing.T) {
	for e, u := range refused() {
		for _, pages := range []int{64, 0, -1, 65} {
			if got, why := plate.Put(u, pages); why != e || len(got) > 0 {
				t.Errorf("Put into %d: %d, not %d", pages, why, e)
			}
		}
	}
}

func TestPutIsNew(t *testing.T) {
	got, _ := plate.Put(of(2, 3, fn('f', 0, strings.Repeat("aA", 60)+"a")), 20)
	want, _ := plate.Put(of(2, 3, fn('f', 0, strings.Repeat("aA", 60)+"a")), 20)
	for i := range got {
		b := got[i].B[:cap(got[i].B)]
		for j := range b {
			b[j] = 99
		}
		if !delta.Same(got[i+1:], want[i+1:]) {
			t.Fatalf("change %d shares memory", i)
		}
	}
}

// P20.1: Get

func expectGet(t *testing.T, what string, pages [][]byte, u api.Unit, memory []byte, first int) {
	t.Helper()
	got, m, at, e := plate.Get(pages)
	if e != api.OK || m == nil || !unit.Same(got, u) || at != first {
		t.Fatalf("%s: Get is %v, %d, refusal %d", what, got, at, e)
	}
	if m.Most() != u.Most || !bytes.Equal(m.Bytes(), memory) || len(m.Dirty()) > 0 {
		t.Errorf("%s: the memory is %v, at most %d", what, m.Bytes(), m.Most())
	}
}

func expectNoGet(t *testing.T, what string, pages [][]byte, want api.Errno) {
	t.Helper()
	u, m, first, e := plate.Get(pages)
	if e != want || m != nil || first != 0 || !unit.Same(u, api.Unit{}) {
		t.Errorf("%s: Get is %v, %v, %d, refusal %d, not %d", what, u, m, first, e, want)
	}
}

func TestGetOfPut(t *testing.T) {
	for _, u := range []api.Unit{of(0, 0), of(0, 9), of(9, 9), of(62, 62), sized(t, 1, 3, 63), sized(t, 1, 3, 64), sized(t, 1, 3, 65), sized(t, 2, 3, 2048), of(1, 2, fn('世', 2, "ab+"), fn('f', 0, "1 2λ世"))} {
		need := plate.Need(u)
		first := 1 + plate.Pages(text(t, u))
		for _, pages := range []int{need, min(need+1, 64), 64} {
			expectGet(t, "zeros", laid(t, u, pages, 0), u, make([]byte, u.Pages*64), first)
			expectGet(t, "filled", laid(t, u, pages, 7), u, make([]byte, u.Pages*64), first)
		}
	}
}

func TestGetTellsCodesAsGlyphWritesThem(t *testing.T) {
	u := of(1, 1, fn('f', 2, "a  b + 01 +"))
	expectGet(t, "blanks", laid(t, u, 9, 0), of(1, 1, fn('f', 2, "ab+1+")), make([]byte, 64), 2)
}

func TestGetOfMemories(t *testing.T) {
	u := of(1, 3, fn('f', 0, "1"))
	pages := laid(t, u, 5, 7)
	for i := range 3 {
		pages[2+i] = bytes.Repeat([]byte{byte(50 + i)}, api.Sector)
	}
	for n := range 6 {
		pages[0] = shade.Meta(len(text(t, u)), n)
		if n < 1 || n > 3 {
			expectNoGet(t, "a memory too small or too great", pages, api.ErrSize)
			continue
		}
		expectGet(t, "some pages", pages, u, bytes.Join(pages[2:2+n], nil), 2)
	}
}

func TestGetOfTooFewPages(t *testing.T) {
	u := sized(t, 1, 3, 130)
	pages := laid(t, u, 64, 0)
	for n := range pages {
		switch {
		case n >= 7:
			expectGet(t, "enough", pages[:n], u, make([]byte, 64), 4)
		case n >= 4:
			expectNoGet(t, "no room for Most", pages[:n], api.ErrSize)
		default:
			expectNoGet(t, "the text is not all there", pages[:n], api.ErrForm)
		}
	}
	expectNoGet(t, "nil", nil, api.ErrForm)
	expectNoGet(t, "none", [][]byte{}, api.ErrForm)
	expectGet(t, "many", append(pages, slices.Repeat([][]byte{make([]byte, 64)}, 100)...), u, make([]byte, 64), 4)
}

func TestGetAsksForSectors(t *testing.T) {
	u := of(1, 3, fn('f', 0, "1"))
	for at := range 9 {
		for _, b := range [][]byte{nil, {}, make([]byte, 63), make([]byte, 65), make([]byte, 63, 64)} {
			pages := laid(t, u, 9, 0)
			pages[at] = b
			expectNoGet(t, "no sector", pages, api.ErrForm)
		}
	}
	// That comes ahead of ErrSize.
	pages := laid(t, u, 5, 0)[:4]
	expectNoGet(t, "too few", pages, api.ErrSize)
	pages[3] = pages[3][1:]
	expectNoGet(t, "too few, and no sector", pages, api.ErrForm)
}

func TestGetAsksForTheMeta(t *testing.T) {
	u := of(1, 3, fn('f', 0, "1"))
	whole := laid(t, u, 9, 0)
	n := len(text(t, u))
	expectGet(t, "whole", whole, u, make([]byte, 64), 2)
	for what, meta := range map[string][]byte{"zeros": make([]byte, 64), "a shorter text": shade.Meta(n-1, 1), "a longer text": shade.Meta(n+1, 1), "no text": shade.Meta(0, 1), "a text of all pages": shade.Meta(8*64, 1), "a text beyond the pages": shade.Meta(8*64+1, 1), "too long a text": shade.Meta(2049, 1), "too many pages": shade.Meta(n, 65)} {
		pages := slices.Clone(whole)
		pages[0] = meta
		expectNoGet(t, what, pages, api.ErrForm)
	}
	pages := slices.Clone(whole)
	pages[0] = shade.Meta(n, 64)
	expectNoGet(t, "more pages than Most", pages, api.ErrSize)
	for i := range 64 {
		b := slices.Clone(whole[0])
		b[i] ^= 0x40
		pages[0] = b
		if i == 11 {
			expectNoGet(t, "another number of pages", pages, api.ErrForm)
			continue
		}
		expectNoGet(t, "a turned Meta", pages, api.ErrForm)
	}
}

func TestGetAsksForZerosBehindTheText(t *testing.T) {
	u := sized(t, 1, 3, 100)
	for i := 36; i < 64; i++ {
		pages := laid(t, u, 9, 7)
		pages[2][i] = 1
		expectNoGet(t, "something behind", pages, api.ErrForm)
	}
	// A text that fills its page has nothing behind it there, and the memory follows at once.
	u = sized(t, 1, 3, 128)
	pages := laid(t, u, 9, 7)
	pages[3][0] = 1
	expectGet(t, "a full page", pages, u, pages[3], 3)
}

func TestGetAsksForAProgram(t *testing.T) {
	for _, s := range []string{"unit 0 0", "unit 0 0\nf0 +\n", "unit 2 1\n", "unit 0 65\n", "unit 0 0\nf0 ¡1\n", "unit 0 0\nf0 ?\n", "unit 0 0\nf0 λg\n", "unit 0 0\nf0  1\n", "\x00", "unit 0 0\nf0 1\nf0 1\n", "unit 0 0\n\n"} {
		page := append([]byte(s), make([]byte, 64-len(s))...)
		expectNoGet(t, s, [][]byte{shade.Meta(len(s), 0), page, make([]byte, 64), make([]byte, 64)}, api.ErrForm)
	}
	s := "unit 0 1\nf0 1\n"
	page := append([]byte(s), make([]byte, 64-len(s))...)
	expectGet(t, "a program", [][]byte{shade.Meta(len(s), 0), page, make([]byte, 64)}, of(0, 1, fn('f', 0, "1")), nil, 2)
}

func TestGetIsNew(t *testing.T) {
	u := of(1, 3, fn('f', 0, "1"))
	pages := laid(t, u, 5, 7)
	got, m, _, _ := plate.Get(pages)
	m.Store(0, 99, true)
	m.Grow(2)
	m.Store(70, 5, true)
	if !slices.EqualFunc(pages, laid(t, u, 5, 7), bytes.Equal) {
		t.Error("the memory is the pages' own")
	}
	for _, b := range pages {
		clear(b)
	}
	if n, _ := m.Load(0, true); n != 99 || !unit.Same(got, u) {
		t.Error("what is handed in is kept")
	}
}
