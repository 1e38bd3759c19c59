package frame_test

import (
	"bytes"
	"math"
	"slices"
	"testing"

	"engram/frame"
)

// mark is the sum of b, reckoned here once more.
func mark(b []byte) uint32 {
	h := uint32(2166136261)
	for _, x := range b {
		h = (h ^ uint32(x)) * 16777619
	}
	return h
}

func four(n uint32) []byte {
	return []byte{byte(n >> 24), byte(n >> 16), byte(n >> 8), byte(n)}
}

// framed is a frame as the chapter has it, of a length that is told, with its right sum.
func framed(epoch, seq, length uint32, b []byte) []byte {
	f := slices.Concat(four(epoch), four(seq), four(length), b)
	return append(f, four(mark(f))...)
}

func count(n int) []byte {
	b := make([]byte, n)
	for i := range b {
		b[i] = byte(i*13 + 1)
	}
	return b
}

func expectNone(t *testing.T, what string, b []byte, epoch, seq uint32) {
	t.Helper()
	if record, n, ok := frame.Read(b, epoch, seq); ok || n != 0 || len(record) != 0 {
		t.Errorf("%s: Read tells %v %d %v", what, record, n, ok)
	}
}

func expectRead(t *testing.T, what string, b []byte, epoch, seq uint32, want []byte) {
	t.Helper()
	record, n, ok := frame.Read(b, epoch, seq)
	if !ok || n != 16+len(want) || !bytes.Equal(record, want) {
		t.Errorf("%s: Read tells %v %d %v, not %v", what, record, n, ok, want)
	}
}

func expectScan(t *testing.T, what string, b []byte, epoch uint32, size int, want ...[]byte) {
	t.Helper()
	l, n := frame.Scan(b, epoch)
	if n != size || !slices.EqualFunc(l, want, bytes.Equal) {
		t.Errorf("%s: Scan tells %v %d, not %v %d", what, l, n, want, size)
	}
}

// P3.1

func TestBytes(t *testing.T) {
	for _, c := range []struct {
		epoch, seq uint32
		b          []byte
	}{
		{0, 0, nil}, {1, 0, nil}, {1, 2, []byte{}}, {1, 2, []byte{3}}, {0x01020304, 0x85868788, []byte{9, 8, 7}},
		{math.MaxUint32, math.MaxUint32, count(255)}, {7, 1 << 31, count(256)}, {1 << 24, 5, count(70000)},
	} {
		got, want := frame.Bytes(c.epoch, c.seq, c.b), framed(c.epoch, c.seq, uint32(len(c.b)), c.b)
		if !bytes.Equal(got, want) {
			t.Errorf("Bytes(%d, %d, %d bytes) is %v, not %v", c.epoch, c.seq, len(c.b), got, want)
		}
		expectRead(t, "what Bytes told", got, c.epoch, c.seq, c.b)
	}
}

func TestFrameOfNoBytes(t *testing.T) {
	if frame.Head != 16 || len(frame.Bytes(1, 2, nil)) != 16 {
		t.Errorf("Head %d, a frame of no bytes %d", frame.Head, len(frame.Bytes(1, 2, nil)))
	}
}

func TestReadPassesByWhatIsBehind(t *testing.T) {
	b := []byte{1, 2, 3}
	expectRead(t, "alone", framed(4, 5, 3, b), 4, 5, b)
	expectRead(t, "more behind", append(framed(4, 5, 3, b), 1, 2, 3, 4, 5), 4, 5, b)
	expectRead(t, "a frame behind", append(framed(4, 5, 3, b), framed(4, 6, 1, b[:1])...), 4, 5, b)
	expectNone(t, "not at the beginning", append([]byte{0}, framed(4, 5, 3, b)...), 4, 5)
}

func TestReadOfAnother(t *testing.T) {
	f := framed(4, 5, 2, []byte{1, 2})
	for _, c := range [][2]uint32{{3, 5}, {5, 5}, {4, 4}, {4, 6}, {5, 4}, {0, 0}, {4 + 1<<8, 5}, {4, 5 + 1<<31}, {4 + 1<<24, 5}} {
		expectNone(t, "another epoch or seq", f, c[0], c[1])
	}
}

func TestReadOfTooFew(t *testing.T) {
	for _, n := range []int{0, 1, 64} {
		f := framed(4, 5, uint32(n), count(n))
		for cut := range f {
			expectNone(t, "cut", f[:cut], 4, 5) // the rest stands in the room behind
			expectNone(t, "cut", slices.Clone(f[:cut]), 4, 5)
		}
	}
	expectNone(t, "nil", nil, 0, 0)
	expectNone(t, "zeros", make([]byte, 640), 0, 0)
}

func TestReadOfATurnedBit(t *testing.T) {
	f := framed(4, 5, 6, count(6))
	for i := range f {
		for bit := range 8 {
			g := append(slices.Clone(f), count(300)...)
			g[i] ^= 1 << bit
			expectNone(t, "a turned bit", g, 4, 5)
		}
	}
}

func TestReadOfALengthThatIsNotThere(t *testing.T) {
	b := count(20)
	for _, n := range []uint32{21, 22, 37, 1 << 16, 1<<31 - 1, 1 << 31, math.MaxUint32 - 16, math.MaxUint32 - 15, math.MaxUint32 - 12, math.MaxUint32 - 11, math.MaxUint32} {
		expectNone(t, "too long", framed(1, 0, n, b), 1, 0)
	}
	// A shorter length is whole, but its sum stands elsewhere.
	expectNone(t, "too short", framed(1, 0, 19, b), 1, 0)
}

func TestScan(t *testing.T) {
	one, two, three := framed(7, 0, 3, count(3)), framed(7, 1, 0, nil), framed(7, 2, 100, count(100))
	expectScan(t, "nil", nil, 7, 0)
	expectScan(t, "zeros", make([]byte, 4096), 0, 0)
	expectScan(t, "one", one, 7, 19, count(3))
	expectScan(t, "two", slices.Concat(one, two), 7, 35, count(3), nil)
	expectScan(t, "three", slices.Concat(one, two, three), 7, 151, count(3), nil, count(100))
	expectScan(t, "zeros behind", slices.Concat(one, two, make([]byte, 64)), 7, 35, count(3), nil)
	expectScan(t, "another epoch", slices.Concat(one, two), 8, 0)
	expectScan(t, "an elder epoch behind", slices.Concat(one, framed(6, 1, 0, nil)), 7, 19, count(3))
	expectScan(t, "seq 1 first", slices.Concat(two, one), 7, 0)
	expectScan(t, "seq 0 twice", slices.Concat(one, one, two), 7, 19, count(3))
	expectScan(t, "seq 1 left out", slices.Concat(one, three), 7, 19, count(3))
	expectScan(t, "a hole between", slices.Concat(one, []byte{0}, two), 7, 19, count(3))
}

func TestScanOfATornRow(t *testing.T) {
	row := slices.Concat(framed(7, 0, 3, count(3)), framed(7, 1, 5, count(5)), framed(7, 2, 1, count(1)))
	ends := []int{19, 40, 57}
	records := [][]byte{count(3), count(5), count(1)}
	for cut := range len(row) + 1 {
		whole, size := 0, 0
		for whole < 3 && ends[whole] <= cut {
			size = ends[whole]
			whole++
		}
		expectScan(t, "cut", row[:cut], 7, size, records[:whole]...)
	}
	for i := range row {
		whole, size := 0, 0
		for ends[whole] <= i {
			size = ends[whole]
			whole++
		}
		torn := slices.Clone(row)
		torn[i] ^= 16
		expectScan(t, "torn", torn, 7, size, records[:whole]...)
	}
}

func TestScanOfManyRecords(t *testing.T) {
	var row []byte
	var want [][]byte
	for i := range 300 {
		b := count(i % 5)
		want = append(want, b)
		row = append(row, frame.Bytes(1, uint32(i), b)...)
	}
	expectScan(t, "many", row, 1, len(row), want...)
}

// R2

func TestWhatIsHandedInStays(t *testing.T) {
	row := append(framed(7, 0, 3, count(3)), framed(7, 1, 2, count(2))...)
	b := append(row, 77, 77, 77)[:len(row)]
	given := slices.Clone(b[:cap(b)])
	record, _, _ := frame.Read(b, 7, 0)
	l, _ := frame.Scan(b, 7)
	spoil(record)
	spoil(frame.Bytes(7, 0, b[:3]))
	spoil(l[0])
	if !bytes.Equal(l[1], count(2)) {
		t.Error("the records share memory")
	}
	spoil(l[1])
	if !bytes.Equal(b[:cap(b)], given) {
		t.Error("an argument is changed, or shares memory with an answer")
	}
}

// spoil writes over b and the room behind it.
func spoil(b []byte) {
	b = b[:cap(b)]
	for i := range b {
		b[i] = 99
	}
}
