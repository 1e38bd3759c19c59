package shade_test

import (
	"bytes"
	"math"
	"slices"
	"testing"

	"engram/api"
	"engram/cells"
	"engram/shade"
)

// page is a page whose bytes count from n on.
func page(n int) []byte {
	b := make([]byte, api.Sector)
	for i := range b {
		b[i] = byte(n + i)
	}
	return b
}

// memory is a memory of pages that count from these numbers on.
func memory(t *testing.T, most int, from ...int) *cells.Memory {
	t.Helper()
	var b []byte
	for _, n := range from {
		b = append(b, page(n)...)
	}
	m := cells.Of(b, most)
	if m == nil {
		t.Fatalf("no memory of %v", from)
	}
	return m
}

// same holds changes against each other, one by one.
func same(a, b []api.Change) bool {
	return slices.EqualFunc(a, b, func(x, y api.Change) bool {
		return x.Page == y.Page && bytes.Equal(x.B, y.B)
	})
}

func expectChanges(t *testing.T, what string, was, now *cells.Memory, first int, want ...api.Change) {
	t.Helper()
	if got := shade.Changes(was, now, first); !same(got, want) {
		t.Errorf("%s: Changes are %v, not %v", what, got, want)
	}
}

// P15.1: Changes

func TestChangesOfNothing(t *testing.T) {
	m, none := memory(t, 5, 1, 2, 3), memory(t, 5)
	expectChanges(t, "one memory", m, m, 0)
	expectChanges(t, "its copy", m, m.Copy(), 7)
	expectChanges(t, "no pages", none, none.Copy(), 1)
	expectChanges(t, "another Most", m, memory(t, 9, 1, 2, 3), 1)
	expectChanges(t, "nil was", nil, m, 1)
	expectChanges(t, "nil now", m, nil, 1)
	expectChanges(t, "nil both", nil, nil, 1)
	expectChanges(t, "fewer pages", m, memory(t, 5, 1, 2), 1)
	expectChanges(t, "no pages more", m, none, 1)
}

func TestChangesAreWhatIsOtherwise(t *testing.T) {
	was := memory(t, 6, 1, 2, 3)
	for _, c := range []struct {
		now  []int
		want []int
	}{
		{[]int{9, 2, 3}, []int{0}}, {[]int{1, 9, 3}, []int{1}}, {[]int{1, 2, 9}, []int{2}}, {[]int{9, 2, 9}, []int{0, 2}}, {[]int{7, 8, 9}, []int{0, 1, 2}},
		{[]int{1, 2, 3, 4}, []int{3}}, {[]int{1, 2, 3, 0, 0}, []int{3, 4}}, {[]int{1, 7, 3, 4, 5, 6}, []int{1, 3, 4, 5}}, {[]int{2, 1, 3}, []int{0, 1}}, {[]int{2, 2}, []int{0}}, {[]int{2, 3}, []int{0, 1}},
	} {
		for _, first := range []int{0, 1, 5, -2} {
			var want []api.Change
			for _, i := range c.want {
				want = append(want, api.Change{Page: first + i, B: page(c.now[i])})
			}
			expectChanges(t, "turned", was, memory(t, 6, c.now...), first, want...)
		}
	}
}

func TestChangesFindEachByte(t *testing.T) {
	was := memory(t, 3, 1, 2, 3)
	for at := range int64(3 * api.Sector) {
		now := was.Copy()
		old, _ := now.Load(at, false)
		now.Store(at, old^1, false)
		want := now.Bytes()[at/api.Sector*api.Sector:][:api.Sector]
		expectChanges(t, "one byte", was, now, 4, api.Change{Page: 4 + int(at/api.Sector), B: want})
	}
}

func TestChangesAskForBytesAndNotForStores(t *testing.T) {
	was := memory(t, 4, 1, 2)
	now := was.Copy()
	n, _ := now.Load(70, true)
	now.Store(70, n, true)
	expectChanges(t, "a store of what is there", was, now, 3)
	now.Store(70, n+1, true)
	now.Store(70, n, true)
	expectChanges(t, "there and back", was, now, 3)
	now.Grow(2)
	expectChanges(t, "grown", was, now, 3, api.Change{Page: 5, B: make([]byte, api.Sector)}, api.Change{Page: 6, B: make([]byte, api.Sector)})
}

func TestChangesOfAllPages(t *testing.T) {
	was, now := cells.New(0, api.MaxPages), cells.New(api.MaxPages, api.MaxPages)
	got := shade.Changes(was, now, 0)
	if len(got) != api.MaxPages {
		t.Fatalf("%d changes", len(got))
	}
	for i, c := range got {
		if c.Page != i || !bytes.Equal(c.B, make([]byte, api.Sector)) {
			t.Errorf("change %d: %v", i, c)
		}
	}
	for _, first := range []int{math.MaxInt, math.MinInt} {
		if len(shade.Changes(was, now, first)) != api.MaxPages {
			t.Errorf("from %d on", first)
		}
	}
}

// spoil writes over b and the room behind it.
func spoil(b []byte) {
	b = b[:cap(b)]
	for i := range b {
		b[i] = 99
	}
}

func TestChangesAreNew(t *testing.T) {
	was, now := memory(t, 3, 1, 2), memory(t, 3, 4, 5, 6)
	got := shade.Changes(was, now, 0)
	for i := range got {
		spoil(got[i].B)
		for j := i + 1; j < len(got); j++ {
			if !bytes.Equal(got[j].B, page(4+j)) {
				t.Errorf("changes %d and %d share memory", i, j)
			}
		}
	}
	if !bytes.Equal(now.Bytes(), memory(t, 3, 4, 5, 6).Bytes()) || !bytes.Equal(was.Bytes(), memory(t, 3, 1, 2).Bytes()) || len(now.Dirty()) > 0 {
		t.Error("a memory is turned")
	}
}

// P15.1: Meta, Read

// meta is a Meta's page as the chapter has it.
func meta(text, pages uint32) []byte {
	b := []byte{'U', 'N', 'I', 'T', byte(text >> 24), byte(text >> 16), byte(text >> 8), byte(text), byte(pages >> 24), byte(pages >> 16), byte(pages >> 8), byte(pages)}
	return append(b, make([]byte, api.Sector-len(b))...)
}

func TestMeta(t *testing.T) {
	for _, c := range [][2]int{{0, 0}, {1, 2}, {api.MaxText, api.MaxPages}, {0x01020304, 0x05060708}, {math.MaxInt32, math.MaxInt32}, {1<<32 - 1, 1 << 31}} {
		if got := shade.Meta(c[0], c[1]); !bytes.Equal(got, meta(uint32(c[0]), uint32(c[1]))) {
			t.Errorf("Meta%v is %v", c, got)
		}
	}
	for _, c := range [][2]int{{-1, -2}, {math.MinInt, math.MaxInt}, {math.MaxInt, math.MinInt}} {
		if n := len(shade.Meta(c[0], c[1])); n != api.Sector {
			t.Errorf("Meta%v is %d bytes", c, n)
		}
	}
}

func TestReadOfMetas(t *testing.T) {
	for _, c := range []struct {
		text, pages int
		want        bool
	}{
		{0, 0, true}, {1, 2, true}, {300, 7, true}, {api.MaxText, api.MaxPages, true}, {api.MaxText, 0, true}, {0, api.MaxPages, true},
		{api.MaxText + 1, 0, false}, {0, api.MaxPages + 1, false}, {api.MaxText + 1, api.MaxPages + 1, false}, {1 << 16, 1, false}, {1, 1 << 8, false}, {1 << 31, 1, false}, {1, 1 << 31, false}, {1<<32 - 1, 1<<32 - 1, false}, {-1, 0, false}, {0, -1, false},
	} {
		text, pages, ok := shade.Read(shade.Meta(c.text, c.pages))
		if ok != c.want || ok && (text != c.text || pages != c.pages) || !ok && (text != 0 || pages != 0) {
			t.Errorf("Read of Meta(%d, %d): %d %d %v", c.text, c.pages, text, pages, ok)
		}
	}
}

func TestReadOfWhatIsNoMeta(t *testing.T) {
	whole := shade.Meta(5, 6)
	refuse := func(what string, b []byte) {
		t.Helper()
		if text, pages, ok := shade.Read(b); ok || text != 0 || pages != 0 {
			t.Errorf("%s: %d %d %v", what, text, pages, ok)
		}
	}
	refuse("nil", nil)
	refuse("zeros", make([]byte, api.Sector))
	refuse("longer", append(slices.Clone(whole), 0))
	refuse("two", append(slices.Clone(whole), whole...))
	for n := range whole {
		refuse("cut", whole[:n:len(whole)])
		b := slices.Clone(whole)
		b[n] ^= 0x80
		// The lowest byte of the text's length may be any.
		if n != 7 {
			refuse("turned", b)
		}
	}
	b := slices.Clone(whole)
	b[7] = 9
	if text, pages, ok := shade.Read(b); text != 9 || pages != 6 || !ok {
		t.Errorf("Read of another: %d %d %v", text, pages, ok)
	}
	if !bytes.Equal(whole, meta(5, 6)) {
		t.Error("what is handed in is turned")
	}
}

// P15.1: Apply

func expectPages(t *testing.T, what string, got [][]byte, want ...[]byte) {
	t.Helper()
	if !slices.EqualFunc(got, want, bytes.Equal) {
		t.Errorf("%s: pages are %v, not %v", what, got, want)
	}
}

func TestApply(t *testing.T) {
	pages := [][]byte{page(1), page(2), page(3)}
	change := func(at, n int) api.Change { return api.Change{Page: at, B: page(n)} }
	for _, c := range []struct {
		l    []api.Change
		want [3]int
	}{
		{nil, [3]int{1, 2, 3}}, {[]api.Change{}, [3]int{1, 2, 3}},
		{[]api.Change{change(0, 7)}, [3]int{7, 2, 3}}, {[]api.Change{change(2, 7)}, [3]int{1, 2, 7}}, {[]api.Change{change(0, 7), change(1, 8), change(2, 9)}, [3]int{7, 8, 9}}, {[]api.Change{change(2, 9), change(0, 7)}, [3]int{7, 2, 9}},
		{[]api.Change{change(1, 7), change(1, 8)}, [3]int{1, 8, 3}}, {[]api.Change{change(1, 7), change(0, 9), change(1, 8)}, [3]int{9, 8, 3}},
		{[]api.Change{change(-1, 7), change(3, 8), change(math.MaxInt, 9), change(math.MinInt, 6)}, [3]int{1, 2, 3}}, {[]api.Change{change(3, 8), change(1, 5), change(-1, 4)}, [3]int{1, 5, 3}},
	} {
		expectPages(t, "Apply", shade.Apply(pages, c.l), page(c.want[0]), page(c.want[1]), page(c.want[2]))
		expectPages(t, "what is handed in", pages, page(1), page(2), page(3))
	}
}

func TestApplyToNoPages(t *testing.T) {
	for _, pages := range [][][]byte{nil, {}} {
		expectPages(t, "no pages", shade.Apply(pages, []api.Change{{Page: 0, B: page(1)}}))
		expectPages(t, "nothing at all", shade.Apply(pages, nil))
	}
}

func TestApplyOfPagesOfAnyLength(t *testing.T) {
	got := shade.Apply([][]byte{nil, {1, 2}, page(3)}, []api.Change{{Page: 1}, {Page: 2, B: []byte{5}}})
	expectPages(t, "lengths", got, nil, nil, []byte{5})
}

func TestApplyMakesCopies(t *testing.T) {
	store := append(page(1), page(2)...)
	pages := [][]byte{store[:api.Sector], store[api.Sector:], store[:api.Sector]}
	given := append(page(7), 77)
	l := []api.Change{{Page: 1, B: given[:api.Sector]}}
	got := shade.Apply(pages, l)
	for i := range got {
		spoil(got[i])
	}
	spoil(shade.Apply(pages, nil)[1])
	if !bytes.Equal(store, append(page(1), page(2)...)) || !bytes.Equal(given, append(page(7), 77)) {
		t.Error("Apply shares what is handed in")
	}
	got = shade.Apply(pages, []api.Change{{Page: 1, B: given}, {Page: 2, B: given}})
	spoil(got[1])
	if !bytes.Equal(got[0], page(1)) || !bytes.Equal(got[2], given) {
		t.Error("two pages share memory")
	}
	got = got[:cap(got)]
	for i := range got {
		got[i] = nil
	}
	expectPages(t, "handed in", pages, page(1), page(2), page(1))
}

func TestApplyOfChangesGivesNow(t *testing.T) {
	s := uint64(1)
	below := func(n int) int {
		s = s*6364136223846793005 + 1442695040888963407
		return int(s >> 33 % uint64(n))
	}
	for range 200 {
		was := cells.New(below(4), 6)
		for range below(5) {
			was.Store(int64(below(256)), int64(below(1<<20)), true)
		}
		now := was.Copy()
		now.Grow(int64(below(3)))
		for range below(5) {
			now.Store(int64(below(384)), int64(below(1<<20)), true)
		}
		var pages [][]byte
		for i := range now.Pages() {
			b := make([]byte, api.Sector)
			copy(b, was.Bytes()[min(i*api.Sector, len(was.Bytes())):])
			pages = append(pages, b)
		}
		if got := bytes.Join(shade.Apply(pages, shade.Changes(was, now, 0)), nil); !bytes.Equal(got, now.Bytes()) {
			t.Fatalf("Apply of Changes: %v, not %v", got, now.Bytes())
		}
	}
}
