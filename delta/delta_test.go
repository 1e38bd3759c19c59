package delta_test

import (
	"bytes"
	"math"
	"slices"
	"testing"

	"engram/api"
	"engram/delta"
	"engram/frame"
)

// page is a page whose bytes count from n on.
func page(n int) []byte {
	b := make([]byte, api.Sector)
	for i := range b {
		b[i] = byte(n + i)
	}
	return b
}

// row is changes of these pages.
func row(pages ...int) []api.Change {
	var l []api.Change
	for _, p := range pages {
		l = append(l, api.Change{Page: p, B: page(p)})
	}
	return l
}

func upTo(n int) []int {
	var l []int
	for i := range n {
		l = append(l, i)
	}
	return l
}

// same holds changes against each other without the package.
func same(a, b []api.Change) bool {
	return slices.EqualFunc(a, b, func(x, y api.Change) bool {
		return x.Page == y.Page && slices.Equal(x.B, y.B)
	})
}

// P4.1: Right

func TestRight(t *testing.T) {
	for _, c := range []struct {
		l     []api.Change
		pages int
		want  bool
	}{
		{nil, 0, true}, {nil, 1, true}, {[]api.Change{}, 7, true}, {nil, api.MaxPages, true}, {nil, -1, true}, {nil, math.MinInt, true},
		{nil, api.MaxPages + 1, false}, {[]api.Change{}, math.MaxInt, false},
		{row(0), 1, true}, {row(0), 0, false}, {row(0), -1, false}, {row(0), math.MinInt, false},
		{row(4), 5, true}, {row(5), 5, false}, {row(6), 5, false}, {row(-1), 5, false}, {row(math.MinInt), 5, false}, {row(math.MaxInt), 5, false},
		{row(63), 64, true}, {row(64), 64, false}, {row(64), 65, false}, {row(0), 65, false}, {row(3), math.MaxInt, false},
		{row(0, 1), 2, true}, {row(0, 4), 5, true}, {row(0, 5), 5, false}, {row(1, 0), 5, false}, {row(1, 1), 5, false},
		{row(0, 2, 1), 5, false}, {row(0, 2, 2), 5, false}, {row(2, 3, 4), 5, true}, {row(-1, 0, 1), 5, false},
		{row(upTo(64)...), 64, true}, {row(upTo(65)...), 64, false}, {row(upTo(64)...), 63, false}, {row(upTo(64)...), 65, false},
	} {
		if got := delta.Right(c.l, c.pages); got != c.want {
			t.Errorf("Right(%d changes, %d) is %v", len(c.l), c.pages, got)
		}
	}
}

func TestRightAsksForPages(t *testing.T) {
	for at := range 3 {
		for _, n := range []int{0, 1, 63, 65, 128} {
			l := row(0, 2, 4)
			l[at].B = make([]byte, n)
			if delta.Right(l, 5) {
				t.Errorf("Right with %d bytes at %d", n, at)
			}
		}
		l := row(0, 2, 4)
		l[at].B = nil
		if delta.Right(l, 5) {
			t.Errorf("Right with nil at %d", at)
		}
		l[at].B = make([]byte, 63, 64)
		if delta.Right(l, 5) {
			t.Errorf("Right reads the room behind at %d", at)
		}
	}
}

// P4.1: Bytes

func TestBytes(t *testing.T) {
	for _, l := range [][]api.Change{nil, {}} {
		if got := delta.Bytes(l); !bytes.Equal(got, []byte{0, 0}) {
			t.Errorf("Bytes of none: %v", got)
		}
	}
	want := slices.Concat([]byte{0, 3, 0, 1}, page(1), []byte{0, 9}, page(9), []byte{0, 63}, page(63))
	if got := delta.Bytes(row(1, 9, 63)); !bytes.Equal(got, want) {
		t.Errorf("Bytes of three: %v", got)
	}
	if got := delta.Bytes(row(upTo(64)...)); len(got) != 2+64*66 || got[0] != 0 || got[1] != 64 {
		t.Errorf("Bytes of 64: %d bytes, %v", len(got), got[:2])
	}
}

func TestBytesPutTheHigherByteFirst(t *testing.T) {
	want := slices.Concat([]byte{0, 1, 0x12, 0x34}, page(0x1234))
	if got := delta.Bytes(row(0x1234)); !bytes.Equal(got, want) {
		t.Errorf("Bytes of page 0x1234: %v", got)
	}
	got := delta.Bytes(make([]api.Change, 0x0203))
	if len(got) != 2+2*0x0203 || got[0] != 2 || got[1] != 3 {
		t.Errorf("Bytes of 0x0203 changes: %d bytes, %v", len(got), got[:2])
	}
}

func TestBytesOfWhatIsNotRight(t *testing.T) {
	l := []api.Change{{Page: 5, B: []byte{1, 2}}, {Page: 3}}
	if got, want := delta.Bytes(l), []byte{0, 2, 0, 5, 1, 2, 0, 3}; !bytes.Equal(got, want) {
		t.Errorf("Bytes are %v, not %v", got, want)
	}
	for _, p := range []int{-1, math.MinInt, math.MaxInt, 1 << 16} {
		delta.Bytes(row(p))
	}
}

// P4.1: Read

func expectRead(t *testing.T, b []byte, pages int, want []api.Change) {
	t.Helper()
	if l, ok := delta.Read(b, pages); !ok || !same(l, want) {
		t.Errorf("Read(%d bytes, %d) tells %d changes, %v", len(b), pages, len(l), ok)
	}
}

func expectNone(t *testing.T, what string, b []byte, pages int) {
	t.Helper()
	if l, ok := delta.Read(b, pages); ok || len(l) != 0 {
		t.Errorf("%s: Read(%d bytes, %d) tells %d changes, %v", what, len(b), pages, len(l), ok)
	}
}

func TestReadTellsWhatBytesTold(t *testing.T) {
	for _, pages := range [][]int{nil, {0}, {63}, {0, 63}, {3, 4, 5}, upTo(64)} {
		expectRead(t, delta.Bytes(row(pages...)), 64, row(pages...))
	}
	expectRead(t, []byte{0, 0}, 0, nil)
	expectRead(t, delta.Bytes(row(0, 4)), 5, row(0, 4))
}

func TestReadOfWhatIsNotWhole(t *testing.T) {
	for _, n := range []int{0, 1, 2, 64} {
		b := append(delta.Bytes(row(upTo(n)...)), 0)
		for cut := range len(b) + 1 {
			if cut != len(b)-1 {
				expectNone(t, "not whole", b[:cut], 64)
			}
		}
	}
	expectNone(t, "nil", nil, 64)
	expectNone(t, "a page too many", append(delta.Bytes(row(0)), append([]byte{0, 1}, page(1)...)...), 64)
	expectNone(t, "a count alone", []byte{255, 255}, 64)
}

func TestReadOfWhatIsNotRight(t *testing.T) {
	for _, c := range []struct {
		l     []api.Change
		pages int
	}{
		{row(1, 0), 64}, {row(1, 1), 64}, {row(5), 5}, {row(0), 0}, {row(0), -1}, {row(64), 64}, {row(256), 64}, {row(0x0100, 0x0101), 64},
		{row(0), 65}, {nil, 65}, {nil, math.MaxInt}, {row(upTo(65)...), 64}, {row(upTo(65)...), 65}, {row(65535), 64},
	} {
		expectNone(t, "not right", delta.Bytes(c.l), c.pages)
	}
	expectNone(t, "a great count", make([]byte, 2+66), 64)
	many := delta.Bytes(make([]api.Change, 256))
	expectNone(t, "a count whose lower byte is 0", many[:2], 64)
}

// P4.1: Need

func TestNeed(t *testing.T) {
	for _, c := range [][2]int{
		{0, 18}, {1, 84}, {2, 150}, {63, 18 + 63*66}, {64, 18 + 64*66},
		{-1, 0}, {65, 0}, {66, 0}, {math.MaxInt, 0}, {math.MinInt, 0}, {math.MaxInt / 66, 0}, {math.MaxInt/33 + 1, 0},
	} {
		if got := delta.Need(c[0]); got != c[1] {
			t.Errorf("Need(%d) is %d, not %d", c[0], got, c[1])
		}
	}
	for n := range 65 {
		if got := len(frame.Bytes(1, 2, delta.Bytes(row(upTo(n)...)))); delta.Need(n) != got {
			t.Errorf("Need(%d) is %d, the frame %d", n, delta.Need(n), got)
		}
	}
}

// P4.1: Same

func TestSame(t *testing.T) {
	other := row(1, 2)
	other[1].B[63]++
	short := row(1, 2)
	short[1].B = short[1].B[:63]
	for _, c := range []struct {
		a, b []api.Change
		want bool
	}{
		{nil, nil, true}, {nil, []api.Change{}, true}, {row(1, 2), row(1, 2), true},
		{nil, row(0), false}, {row(1), row(1, 2), false}, {row(1, 2), row(1, 3), false}, {row(1, 2), row(2, 1), false},
		{row(1, 2), other, false}, {row(1, 2), short, false},
		{[]api.Change{{Page: 1}}, []api.Change{{Page: 2}}, false},
		{[]api.Change{{Page: -1}}, []api.Change{{Page: -1, B: []byte{}}}, true},
		{[]api.Change{{Page: 1, B: []byte{7}}}, []api.Change{{Page: 1, B: []byte{7, 8}[:1]}}, true},
	} {
		if delta.Same(c.a, c.b) != c.want || delta.Same(c.b, c.a) != c.want {
			t.Errorf("Same(%v, %v) is not %v", c.a, c.b, c.want)
		}
	}
}

// R2, R5

func TestWhatIsHandedInStays(t *testing.T) {
	l := append(row(0, 3), api.Change{Page: 77})[:2]
	l[1].B = append(page(3), 77)[:api.Sector]
	b := delta.Bytes(l)
	if !bytes.Equal(b, delta.Bytes(row(0, 3))) {
		t.Error("the room behind is read")
	}
	got, _ := delta.Read(append(b, 0)[:len(b)], 64)
	delta.Right(l, 64)
	delta.Same(l, got)
	spoil(b)
	if !same(got, row(0, 3)) || !same(l, row(0, 3)) {
		t.Error("lists share memory with what they were read of")
	}
	spoil(got[0].B)
	if !bytes.Equal(got[1].B, page(3)) {
		t.Error("two pages share memory")
	}
	if l[:3][2].Page != 77 || l[1].B[:api.Sector+1][api.Sector] != 77 {
		t.Error("the room behind is changed")
	}
}

// spoil writes over b and the room behind it.
func spoil(b []byte) {
	b = b[:cap(b)]
	for i := range b {
		b[i] = 99
	}
}
