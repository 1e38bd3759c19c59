package sum_test

import (
	"bytes"
	"math"
	"slices"
	"testing"

	"engram/sum"
)

// P2.1

func TestFirst(t *testing.T) {
	if sum.First != 2166136261 {
		t.Errorf("First is %d", sum.First)
	}
	if sum.Of(nil) != 2166136261 || sum.Of([]byte{}) != 2166136261 {
		t.Errorf("Of nothing: %d, %d", sum.Of(nil), sum.Of([]byte{}))
	}
}

func TestOfKnownTexts(t *testing.T) {
	for _, c := range []struct {
		text string
		want uint32
	}{
		{"a", 0xe40c292c}, {"b", 0xe70c2de5}, {"fo", 0x6222e842}, {"foo", 0xa9f37ed7}, {"foob", 0x3f5076ef},
		{"fooba", 0x39aaa18a}, {"foobar", 0xbf9cf968}, {"\x00", 0x050c5d1f},
	} {
		if got := sum.Of([]byte(c.text)); got != c.want {
			t.Errorf("Of(%q) is %#x, not %#x", c.text, got, c.want)
		}
	}
}

// stepped is Step in wide numbers: the lowest eight bits turned one by one, the product cut to 32 bits by a remainder.
func stepped(h uint32, b byte) uint32 {
	n := uint64(h)
	for i := range 8 {
		if b>>i&1 == 1 {
			if n>>i&1 == 1 {
				n -= 1 << i
			} else {
				n += 1 << i
			}
		}
	}
	return uint32(n * 16777619 % (1 << 32))
}

func TestStep(t *testing.T) {
	for _, h := range []uint32{0, 1, 2, 127, 128, 255, 256, 257, 0xff00, 1 << 24, sum.First, 1 << 31, math.MaxUint32 - 1, math.MaxUint32} {
		for b := range 256 {
			if got, want := sum.Step(h, byte(b)), stepped(h, byte(b)); got != want {
				t.Errorf("Step(%d, %d) is %d, not %d", h, b, got, want)
			}
		}
	}
}

func TestOfGoesByteByByte(t *testing.T) {
	var b []byte
	want := uint32(sum.First)
	for i := range 700 {
		if got := sum.Of(b); got != want {
			t.Fatalf("Of %d bytes is %d, not %d", i, got, want)
		}
		x := byte(i*37 + i/256)
		b = append(b, x)
		want = stepped(want, x)
	}
	if sum.Of([]byte{1, 2}) == sum.Of([]byte{2, 1}) {
		t.Error("Of does not hang on the order")
	}
}

func TestPut(t *testing.T) {
	for _, c := range []struct {
		b    []byte
		n    uint32
		want []byte
	}{
		{nil, 1, []byte{0, 0, 0, 1}},
		{[]byte{}, 0, []byte{0, 0, 0, 0}},
		{nil, 0x01020304, []byte{1, 2, 3, 4}},
		{[]byte{9}, 0x80ff7f00, []byte{9, 0x80, 0xff, 0x7f, 0}},
		{[]byte{7, 8, 9}, math.MaxUint32, []byte{7, 8, 9, 255, 255, 255, 255}},
		{[]byte{5, 5, 5, 5}, 1 << 31, []byte{5, 5, 5, 5, 128, 0, 0, 0}},
	} {
		if got := sum.Put(c.b, c.n); !bytes.Equal(got, c.want) {
			t.Errorf("Put(%v, %d) is %v, not %v", c.b, c.n, got, c.want)
		}
	}
}

func TestGet(t *testing.T) {
	b := []byte{0x81, 2, 3, 4, 0xff, 6, 7}
	for _, c := range []struct {
		at   int
		want uint32
	}{
		{0, 0x81020304}, {1, 0x020304ff}, {2, 0x0304ff06}, {3, 0x04ff0607},
		{4, 0}, {5, 0}, {6, 0}, {7, 0}, {8, 0}, {-1, 0}, {-4, 0}, {-7, 0},
		{math.MaxInt, 0}, {math.MaxInt - 3, 0}, {math.MaxInt - 4, 0}, {math.MinInt, 0}, {math.MinInt + 4, 0},
	} {
		if got := sum.Get(b, c.at); got != c.want {
			t.Errorf("Get(%d) is %#x, not %#x", c.at, got, c.want)
		}
	}
}

func TestGetOfTooFew(t *testing.T) {
	for n := range 4 {
		b := []byte{1, 2, 3, 4, 5, 6}[:n]
		for at := -5; at < 9; at++ {
			if got := sum.Get(b, at); got != 0 {
				t.Errorf("Get of %d bytes at %d is %d: the room behind is read", n, at, got)
			}
		}
	}
	if sum.Get(nil, 0) != 0 {
		t.Error("Get of nil")
	}
	if got := sum.Get([]byte{1, 2, 3, 4}, 0); got != 0x01020304 {
		t.Errorf("Get of just four is %#x", got)
	}
}

func TestGetTellsWhatPutPut(t *testing.T) {
	var b []byte
	numbers := []uint32{0, 1, 255, 256, 65535, 65536, 1<<24 - 1, 1 << 24, 1<<31 - 1, 1 << 31, math.MaxUint32, sum.First}
	for _, n := range numbers {
		b = sum.Put(b, n)
	}
	for i, n := range numbers {
		if got := sum.Get(b, 4*i); got != n {
			t.Errorf("Get(%d) is %d, not %d", 4*i, got, n)
		}
	}
}

// R2, R5

func TestWhatIsHandedInStays(t *testing.T) {
	room := []byte{1, 2, 3, 77, 77, 77, 77, 77}
	given := slices.Clone(room)
	got := sum.Put(room[:3], 0x0a0b0c0d)
	sum.Of(room[:3])
	sum.Get(room[:3], 0)
	if !bytes.Equal(room, given) {
		t.Errorf("the argument or the room behind it is changed: %v", room)
	}
	got = got[:cap(got)]
	for i := range got {
		got[i] = 99
	}
	if !bytes.Equal(room, given) {
		t.Error("the answer shares memory with the argument")
	}
	if sum.Of(room[:3]) != sum.Of([]byte{1, 2, 3}) {
		t.Error("Of reads the room behind")
	}
}
