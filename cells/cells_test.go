package cells_test

import (
	"bytes"
	"math"
	"slices"
	"testing"

	"engram/cells"
)

// strange addresses and numbers, none of which lies in a memory.
var strange = []int64{math.MinInt64, math.MinInt64 + 1, math.MinInt64 + 8, math.MinInt64 + 64, -4096, -65, -64, -9, -8, -7, -2, -1, 4096, 4097, 1 << 31, 1<<32 - 1, 1 << 32, math.MaxInt64 - 64, math.MaxInt64 - 8, math.MaxInt64 - 7, math.MaxInt64 - 1, math.MaxInt64}

func count(n int) []byte {
	b := make([]byte, n)
	for i := range b {
		b[i] = byte(i*7 + i/256 + 1)
	}
	return b
}

func expectIs(t *testing.T, m *cells.Memory, pages, most int, b []byte, dirty ...int) {
	t.Helper()
	if m == nil {
		t.Fatal("no memory")
	}
	if m.Pages() != pages || m.Most() != most || !slices.Equal(m.Dirty(), dirty) {
		t.Errorf("Pages %d, Most %d, Dirty %v, not %d, %d, %v", m.Pages(), m.Most(), m.Dirty(), pages, most, dirty)
	}
	if !bytes.Equal(m.Bytes(), b) {
		t.Errorf("Bytes are %v, not %v", m.Bytes(), b)
	}
}

func expectLoad(t *testing.T, m *cells.Memory, at int64, wide bool, want int64, ok bool) {
	t.Helper()
	if n, got := m.Load(at, wide); n != want || got != ok {
		t.Errorf("Load(%d, %v) is %d, %v, not %d, %v", at, wide, n, got, want, ok)
	}
}

// P11.1: New

func TestNew(t *testing.T) {
	for _, c := range [][2]int{{0, 0}, {0, 1}, {1, 1}, {1, 64}, {0, 64}, {64, 64}, {63, 64}, {7, 20}} {
		expectIs(t, cells.New(c[0], c[1]), c[0], c[1], make([]byte, 64*c[0]))
	}
	for _, c := range [][2]int{
		{-1, 0}, {-1, -1}, {0, -1}, {1, 0}, {2, 1}, {64, 63}, {65, 64}, {0, 65}, {1, 65}, {65, 65}, {-1, 64}, {-1, 65},
		{math.MinInt, math.MinInt}, {math.MinInt, 0}, {math.MaxInt, math.MaxInt}, {0, math.MaxInt}, {math.MaxInt, 1}, {math.MinInt, math.MaxInt}, {0, math.MinInt},
	} {
		if m := cells.New(c[0], c[1]); m != nil {
			t.Errorf("New(%d, %d) makes a memory", c[0], c[1])
		}
	}
}

// P11.1: Of

func TestOf(t *testing.T) {
	for _, c := range [][2]int{{0, 0}, {0, 64}, {1, 1}, {1, 2}, {3, 64}, {64, 64}} {
		expectIs(t, cells.Of(count(64*c[0]), c[1]), c[0], c[1], count(64*c[0]))
	}
	expectIs(t, cells.Of(nil, 3), 0, 3, nil)
	for _, c := range [][2]int{
		{1, 1}, {63, 1}, {65, 2}, {127, 2}, {129, 64}, {4095, 64}, {4097, 64}, {64, 0}, {128, 1}, {4096, 63}, {0, -1}, {64, -1}, {64, math.MinInt},
		{0, 65}, {64, 65}, {65 * 64, 65}, {65 * 64, 64}, {64, math.MaxInt}, {100 * 64, math.MaxInt},
	} {
		if m := cells.Of(make([]byte, c[0]), c[1]); m != nil {
			t.Errorf("Of(%d bytes, %d) makes a memory", c[0], c[1])
		}
	}
}

// P11.1: Load

func TestLoad(t *testing.T) {
	b := count(128)
	m := cells.Of(b, 5)
	for at := range 128 {
		expectLoad(t, m, int64(at), false, int64(b[at]), true)
		if at > 120 {
			expectLoad(t, m, int64(at), true, 0, false)
			continue
		}
		want := int64(0)
		for i := 7; i >= 0; i-- {
			want = want*256 + int64(b[at+i])
		}
		expectLoad(t, m, int64(at), true, want, true)
	}
	for _, at := range append([]int64{128, 129, 136, 192, 320}, strange...) {
		expectLoad(t, m, at, false, 0, false)
		expectLoad(t, m, at, true, 0, false)
	}
	expectIs(t, m, 2, 5, b)
}

func TestLoadOfNumbers(t *testing.T) {
	b := make([]byte, 64)
	copy(b, []byte{1, 0, 0, 0, 0, 0, 0, 0, 0xff, 0xff, 0xff, 0xff, 0xff, 0xff, 0xff, 0xff, 0, 0, 0, 0, 0, 0, 0, 0x80, 0xef, 0xcd, 0xab, 0x89, 0x67, 0x45, 0x23, 0x01})
	m := cells.Of(b, 1)
	expectLoad(t, m, 0, true, 1, true)
	expectLoad(t, m, 8, true, -1, true)
	expectLoad(t, m, 16, true, math.MinInt64, true)
	expectLoad(t, m, 24, true, 0x0123456789abcdef, true)
	expectLoad(t, m, 8, false, 255, true)
	expectLoad(t, m, 23, false, 128, true)
	expectLoad(t, cells.New(1, 1), 57, true, 0, false)
	expectLoad(t, cells.New(1, 1), 56, true, 0, true)
	expectLoad(t, cells.New(1, 1), 63, false, 0, true)
	for _, at := range []int64{0, -1, -8, 1} {
		expectLoad(t, cells.New(0, 64), at, false, 0, false)
		expectLoad(t, cells.New(0, 64), at, true, 0, false)
	}
}

// P11.1: Store

func TestStore(t *testing.T) {
	for at := range 128 {
		for _, n := range []int64{0, 1, -1, 255, 256, 0x0123456789abcdef, -0x7edcba9876543210, math.MinInt64, math.MaxInt64, 128, -128} {
			b, m := count(128), cells.Of(count(128), 5)
			if !m.Store(int64(at), n, false) {
				t.Fatalf("Store(%d) of a byte is refused", at)
			}
			b[at] = byte(uint64(n) % 256)
			expectIs(t, m, 2, 5, b, at/64)
			expectLoad(t, m, int64(at), false, int64(b[at]), true)
		}
	}
}

func TestWideStore(t *testing.T) {
	for at := range 121 {
		for _, n := range []int64{0, 1, -1, 255, 256, 0x0123456789abcdef, -0x7edcba9876543210, math.MinInt64, math.MaxInt64} {
			b, m := count(128), cells.Of(count(128), 5)
			if !m.Store(int64(at), n, true) {
				t.Fatalf("Store(%d) is refused", at)
			}
			rest := uint64(n)
			for i := range 8 {
				b[at+i] = byte(rest % 256)
				rest /= 256
			}
			dirty := []int{at / 64}
			if (at+7)/64 != at/64 {
				dirty = []int{0, 1}
			}
			expectIs(t, m, 2, 5, b, dirty...)
			expectLoad(t, m, int64(at), true, n, true)
		}
	}
}

func TestStoreBeyond(t *testing.T) {
	m := cells.Of(count(128), 5)
	for _, at := range append([]int64{128, 129, 135, 136, 192, 319}, strange...) {
		if m.Store(at, -1, false) || m.Store(at, -1, true) {
			t.Errorf("Store(%d) is taken", at)
		}
	}
	for at := int64(121); at < 128; at++ {
		if m.Store(at, -1, true) {
			t.Errorf("Store(%d) is taken", at)
		}
	}
	if empty := cells.New(0, 64); empty.Store(0, 1, false) || empty.Store(0, 1, true) || empty.Store(-8, 1, true) || empty.Store(-1, 1, false) {
		t.Error("Store into no pages")
	}
	expectIs(t, m, 2, 5, count(128))
}

// P11.1: Grow

func TestGrow(t *testing.T) {
	m := cells.Of(count(64), 5)
	for _, c := range []struct{ n, want int64 }{{0, 1}, {5, -1}, {-1, -1}, {math.MinInt64, -1}, {math.MaxInt64, -1}, {math.MaxInt64 - 1, -1}, {1 << 32, -1}, {1<<32 + 1, -1}, {1 << 58, -1}, {0, 1}} {
		if got := m.Grow(c.n); got != c.want {
			t.Errorf("Grow(%d) is %d, not %d", c.n, got, c.want)
		}
		expectIs(t, m, 1, 5, count(64))
	}
	for _, c := range []struct {
		n, want int64
		pages   int
	}{{1, 1, 2}, {4, -1, 2}, {0, 2, 2}, {2, 2, 4}, {2, -1, 4}, {1, 4, 5}, {0, 5, 5}, {1, -1, 5}, {-5, -1, 5}, {-1, -1, 5}} {
		if got := m.Grow(c.n); got != c.want {
			t.Errorf("Grow(%d) is %d, not %d", c.n, got, c.want)
		}
		var dirty []int
		for page := 1; page < c.pages; page++ {
			dirty = append(dirty, page)
		}
		expectIs(t, m, c.pages, 5, append(count(64), make([]byte, 64*(c.pages-1))...), dirty...)
	}
	if all := cells.New(0, 64); all.Grow(65) != -1 || all.Grow(64) != 0 || all.Pages() != 64 || len(all.Dirty()) != 64 || all.Grow(1) != -1 || all.Grow(0) != 64 {
		t.Error("Grow to all pages")
	}
	if none := cells.New(0, 0); none.Grow(0) != 0 || none.Grow(1) != -1 {
		t.Error("Grow of nothing")
	}
}

func TestGrownPagesAreStoredTo(t *testing.T) {
	m := cells.New(1, 3)
	if m.Store(64, 5, false) || m.Store(57, 5, true) {
		t.Error("Store ahead of Grow")
	}
	m.Grow(1)
	if !m.Store(60, -1, true) || !m.Store(127, 9, false) || m.Store(121, 0, true) {
		t.Error("Store behind Grow")
	}
	expectLoad(t, m, 60, true, -1, true)
	expectIs(t, m, 2, 3, slices.Concat(make([]byte, 60), bytes.Repeat([]byte{255}, 8), make([]byte, 59), []byte{9}), 0, 1)
}

// P11.1: Dirty, Copy

func TestDirty(t *testing.T) {
	m := cells.New(6, 8)
	for _, c := range []struct {
		do   func()
		want []int
	}{
		{func() {}, nil},
		{func() {
			m.Load(0, true)
			m.Bytes()
			m.Copy()
			m.Pages()
			m.Grow(0)
			m.Grow(9)
		}, nil},
		{func() { m.Store(5*64, 0, false) }, []int{5}}, // what is there already
		{func() { m.Store(1*64, 7, true) }, []int{1, 5}},
		{func() { m.Store(1*64+63, 7, false) }, []int{1, 5}},
		{func() { m.Store(3*64-1, 7, true) }, []int{1, 2, 3, 5}},
		{func() { m.Store(6*64-7, 7, true) }, []int{1, 2, 3, 5}},
		{func() { m.Grow(2) }, []int{1, 2, 3, 5, 6, 7}},
		{func() { m.Store(0, 0, true) }, []int{0, 1, 2, 3, 5, 6, 7}},
		{func() { m.Store(1*64, 0, true) }, []int{0, 1, 2, 3, 5, 6, 7}},
	} {
		c.do()
		if got := m.Dirty(); !slices.Equal(got, c.want) {
			t.Errorf("Dirty is %v, not %v", got, c.want)
		}
	}
}

func TestCopy(t *testing.T) {
	m := cells.Of(count(128), 5)
	m.Store(70, 99, false)
	m.Grow(1)
	was := m.Bytes()
	c := m.Copy()
	expectIs(t, c, 3, 5, was)
	expectIs(t, m, 3, 5, was, 1, 2)
	c.Store(0, -1, true)
	if c.Grow(2) != 3 || c.Grow(1) != -1 {
		t.Error("Grow of a copy")
	}
	expectIs(t, m, 3, 5, was, 1, 2)
	m.Store(128, 5, false)
	m.Grow(1)
	m.Store(192, 77, false)
	if b := c.Bytes(); b[0] != 255 || b[128] != 0 || b[192] != 0 || !slices.Equal(c.Dirty(), []int{0, 3, 4}) {
		t.Errorf("a copy shares: Dirty %v", c.Dirty())
	}
	expectIs(t, cells.New(0, 0).Copy(), 0, 0, nil)
	expectIs(t, cells.New(64, 64).Copy().Copy(), 64, 64, make([]byte, 4096))
}

// Long rows of calls beside a plainer memory.
func TestLongRows(t *testing.T) {
	state := uint32(7)
	pick := func(n int) int64 {
		state = state*1664525 + 1013904223
		return int64(int(state>>16) % n)
	}
	for range 200 {
		most := int(pick(7))
		m, plain, dirty := cells.New(0, most), []byte{}, map[int]int{}
		for range 100 {
			at, n, wide := pick(len(plain)+20)-8, (pick(65536)<<48)^(pick(65536)<<20)^pick(65536), pick(2) == 0
			size := map[bool]int{true: 8, false: 1}[wide]
			in := at >= 0 && int(at)+size <= len(plain)
			switch pick(5) {
			case 0:
				more := pick(4) - 1
				want := int64(-1)
				if more >= 0 && len(plain)/64+int(more) <= most {
					want = int64(len(plain) / 64)
					for range more {
						dirty[len(plain)/64] = 1
						plain = append(plain, make([]byte, 64)...)
					}
				}
				if got := m.Grow(more); got != want {
					t.Fatalf("Grow(%d) is %d, not %d", more, got, want)
				}
			case 1:
				m, dirty = m.Copy(), map[int]int{}
			default:
				if got := m.Store(at, n, wide); got != in {
					t.Fatalf("Store(%d) of %d bytes is %v", at, len(plain), got)
				}
				for i := range size {
					if in {
						plain[int(at)+i] = byte(n >> (8 * i))
						dirty[(int(at)+i)/64] = 1
					}
				}
			}
			var pages []int
			for page := range 64 {
				if dirty[page] == 1 {
					pages = append(pages, page)
				}
			}
			expectIs(t, m, len(plain)/64, most, plain, pages...)
		}
	}
}

// R2

func TestNothingIsShared(t *testing.T) {
	given := append(count(64), 1, 2, 3)[:64]
	room := slices.Clone(given[:67])
	m := cells.Of(given, 2)
	m.Store(0, -5, true)
	m.Grow(1)
	m.Store(64, -5, true)
	if !bytes.Equal(given[:67], room) {
		t.Error("Of keeps what is handed in")
	}
	given[9] = 99
	expectLoad(t, m, 9, false, int64(room[9]), true)
	was := m.Bytes()
	b, dirty := m.Bytes(), m.Dirty()
	b, dirty = b[:cap(b)], dirty[:cap(dirty)]
	for i := range b {
		b[i] = 99
	}
	for i := range dirty {
		dirty[i] = 99
	}
	expectIs(t, m, 2, 2, was, 0, 1)
}
