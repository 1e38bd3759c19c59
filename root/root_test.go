package root_test

import (
	"bytes"
	"math"
	"slices"
	"testing"

	"engram/api"
	"engram/disk"
	"engram/root"
)

// mark is the sum of b, reckoned here once more.
func mark(b []byte) uint32 {
	h := uint32(2166136261)
	for _, x := range b {
		h = (h ^ uint32(x)) * 16777619
	}
	return h
}

func four(n uint32) []byte {
	return []byte{byte(n >> 24), byte(n >> 16), byte(n >> 8), byte(n)}
}

// written is a root's sector as the chapter has it, with its right sum.
func written(log, pages, epoch uint32) []byte {
	b := slices.Concat([]byte{'E', 'N', 'G', '1'}, four(log), four(pages), four(epoch))
	b = append(b, four(mark(b))...)
	return append(b, make([]byte, 44)...)
}

// P5.1: Right

func TestRight(t *testing.T) {
	for _, c := range []struct {
		log, pages int
		epoch      uint32
		sectors    int
		want       bool
	}{
		{1, 1, 1, 4, true}, {1, 1, 1, 3, false}, {1, 1, 1, 5, true}, {1, 1, 0, 4, false}, {1, 1, math.MaxUint32, 4, true},
		{0, 1, 1, 160, false}, {1, 0, 1, 160, false}, {-1, 1, 1, 160, false}, {1, -1, 1, 160, false}, {0, 0, 1, 160, false},
		{64, 64, 1, 130, true}, {64, 64, 1, 129, false}, {64, 64, 1, 160, true}, {65, 1, 1, 160, false}, {1, 65, 1, 160, false},
		{64, 1, 1, 67, true}, {64, 1, 1, 66, false}, {1, 64, 1, 67, true}, {1, 64, 1, 66, false}, {20, 30, 5, 52, true}, {20, 30, 5, 51, false},
		{1, 1, 1, 0, false}, {1, 1, 1, -1, false}, {1, 1, 1, math.MinInt, false}, {1, 1, 1, math.MaxInt, true},
		{math.MaxInt, 1, 1, 160, false}, {1, math.MaxInt, 1, 160, false}, {math.MaxInt, math.MaxInt, 1, 160, false}, {math.MinInt, math.MinInt, 1, 160, false},
	} {
		if got := root.Right(api.Root{Log: c.log, Pages: c.pages, Epoch: c.epoch}, c.sectors); got != c.want {
			t.Errorf("Right(%d %d %d, %d) is %v", c.log, c.pages, c.epoch, c.sectors, got)
		}
	}
}

// P5.1: Bytes

func TestBytes(t *testing.T) {
	for _, c := range []struct {
		r    api.Root
		want []byte
	}{
		{api.Root{}, written(0, 0, 0)},
		{api.Root{Log: 1, Pages: 2, Epoch: 3}, written(1, 2, 3)},
		{api.Root{Log: 64, Pages: 31, Epoch: math.MaxUint32}, written(64, 31, math.MaxUint32)},
		{api.Root{Log: 0x01020304, Pages: 0x05060708, Epoch: 0x890a0b0c}, written(0x01020304, 0x05060708, 0x890a0b0c)},
		{api.Root{Log: math.MaxInt32, Pages: math.MaxInt32, Epoch: 1}, written(math.MaxInt32, math.MaxInt32, 1)},
	} {
		if got := root.Bytes(c.r); !bytes.Equal(got, c.want) {
			t.Errorf("Bytes(%v) are %v, not %v", c.r, got, c.want)
		}
	}
}

func TestBytesOfNoRootAreASector(t *testing.T) {
	for _, r := range []api.Root{{Log: -1, Pages: -2}, {Log: math.MinInt, Pages: math.MaxInt}, {Log: math.MaxInt, Pages: math.MinInt, Epoch: 1}} {
		if n := len(root.Bytes(r)); n != api.Sector {
			t.Errorf("Bytes(%v) are %d bytes", r, n)
		}
	}
}

// P5.1: Read

func expectNone(t *testing.T, what string, b []byte) {
	t.Helper()
	if r, ok := root.Read(b); ok || r != (api.Root{}) {
		t.Errorf("%s: Read tells %v %v", what, r, ok)
	}
}

func TestRead(t *testing.T) {
	for _, r := range []api.Root{
		{}, {Log: 1, Pages: 1, Epoch: 1}, {Log: 64, Pages: 63, Epoch: 256}, {Log: 65, Pages: 0, Epoch: 0}, {Epoch: math.MaxUint32},
		{Log: 0x01020304, Pages: 0x05060708, Epoch: 0x890a0b0c}, {Log: math.MaxInt32, Pages: 1, Epoch: 1}, {Log: 1, Pages: math.MaxInt32, Epoch: 1 << 31},
	} {
		b := written(uint32(r.Log), uint32(r.Pages), r.Epoch)
		if got, ok := root.Read(b); !ok || got != r {
			t.Errorf("Read of %v tells %v %v", r, got, ok)
		}
		if got, ok := root.Read(root.Bytes(r)); !ok || got != r {
			t.Errorf("Read of Bytes(%v) tells %v %v", r, got, ok)
		}
	}
}

func TestReadOfNumbersThatAreTooGreat(t *testing.T) {
	for _, n := range []uint32{1 << 31, 1<<31 + 1, math.MaxUint32} {
		expectNone(t, "Log", written(n, 1, 1))
		expectNone(t, "Pages", written(1, n, 1))
		expectNone(t, "both", written(n, n, 1))
	}
	expectNone(t, "below 0", root.Bytes(api.Root{Log: -1, Pages: 1, Epoch: 1}))
	expectNone(t, "below 0", root.Bytes(api.Root{Log: 1, Pages: -1, Epoch: 1}))
}

func TestReadOfATurnedBit(t *testing.T) {
	for i := range api.Sector {
		for bit := range 8 {
			b := written(3, 4, 5)
			b[i] ^= 1 << bit
			expectNone(t, "a turned bit", b)
		}
	}
}

func TestReadOfAnotherLength(t *testing.T) {
	b := append(written(3, 4, 5), make([]byte, 64)...)
	for n := range b {
		if n != api.Sector {
			expectNone(t, "cut", b[:n])
			expectNone(t, "cut", slices.Clone(b[:n]))
		}
	}
	expectNone(t, "nil", nil)
	expectNone(t, "zeros", make([]byte, api.Sector))
}

func TestReadOfAnotherMark(t *testing.T) {
	for _, m := range []string{"ENG0", "ENG2", "eng1", "ENGI", "UNIT", "1GNE"} {
		b := written(3, 4, 5)
		copy(b, m)
		copy(b[16:], four(mark(b[:16])))
		expectNone(t, m, b)
	}
}

// P5.1: Best

// roots is a disk of so many sectors that begins with these two.
func roots(sectors int, first, second []byte) *disk.Disk {
	image := make([]byte, sectors*api.Sector)
	copy(image, first)
	copy(image[api.Sector:], second)
	return disk.Of(image)
}

func TestBest(t *testing.T) {
	torn := written(1, 1, 9)
	torn[15] ^= 1
	for i, c := range []struct {
		first, second []byte
		want          api.Root
	}{
		{nil, nil, api.Root{}},
		{written(1, 2, 1), nil, api.Root{Log: 1, Pages: 2, Epoch: 1}},
		{nil, written(1, 2, 1), api.Root{Log: 1, Pages: 2, Epoch: 1}},
		{written(1, 2, 5), written(2, 1, 6), api.Root{Log: 2, Pages: 1, Epoch: 6}},
		{written(1, 2, 6), written(2, 1, 5), api.Root{Log: 1, Pages: 2, Epoch: 6}},
		{written(1, 2, 7), written(2, 1, 7), api.Root{Log: 1, Pages: 2, Epoch: 7}},
		{written(1, 2, 1<<31-1), written(2, 1, 1<<31), api.Root{Log: 2, Pages: 1, Epoch: 1 << 31}},
		{written(1, 2, math.MaxUint32), written(2, 1, 1), api.Root{Log: 1, Pages: 2, Epoch: math.MaxUint32}},
		{torn, written(2, 1, 5), api.Root{Log: 2, Pages: 1, Epoch: 5}},
		{written(1, 2, 5), torn, api.Root{Log: 1, Pages: 2, Epoch: 5}},
		{torn, torn, api.Root{}},
		{written(2, 2, 9), written(2, 1, 5), api.Root{Log: 2, Pages: 1, Epoch: 5}},
		{written(1, 2, 5), written(1, 3, 9), api.Root{Log: 1, Pages: 2, Epoch: 5}},
		{written(0, 2, 9), written(2, 1, 5), api.Root{Log: 2, Pages: 1, Epoch: 5}},
		{written(1, 2, 5), written(2, 0, 9), api.Root{Log: 1, Pages: 2, Epoch: 5}},
		{written(1, 2, 0), nil, api.Root{}},
		{written(1, 2, 0), written(2, 1, 0), api.Root{}},
		{written(1<<31-1, 1, 9), written(1, 1<<31-1, 9), api.Root{}},
	} {
		got, ok := root.Best(roots(5, c.first, c.second))
		if got != c.want || ok != (c.want != api.Root{}) {
			t.Errorf("case %d: Best tells %v %v, not %v", i, got, ok, c.want)
		}
	}
}

func TestBestLooksAtTheFirstTwoSectorsAlone(t *testing.T) {
	image := make([]byte, 5*api.Sector)
	copy(image[2*api.Sector:], written(1, 1, 9))
	if r, ok := root.Best(disk.Of(image)); ok || r != (api.Root{}) {
		t.Errorf("Best tells %v of sector 2", r)
	}
}

func TestBestOfNoDisk(t *testing.T) {
	for _, d := range []*disk.Disk{nil, disk.New(1), disk.New(5), disk.New(api.MaxSectors), disk.Of(written(1, 1, 1)), roots(2, written(1, 1, 1), nil)} {
		if r, ok := root.Best(d); ok || r != (api.Root{}) {
			t.Errorf("Best tells %v %v", r, ok)
		}
	}
}

func TestBestReadsWhatWaits(t *testing.T) {
	d := roots(4, written(1, 1, 4), nil)
	d.Write(1, written(1, 1, 5))
	if r, _ := root.Best(d); r.Epoch != 5 {
		t.Errorf("Best tells %v", r)
	}
	if !slices.Equal(d.Waits(), []int{1}) {
		t.Errorf("Best turns what waits: %v", d.Waits())
	}
	d.Crash(16) // torn ahead of the sum
	if r, _ := root.Best(d); r.Epoch != 4 {
		t.Errorf("Best of a torn one tells %v", r)
	}
}

// P5.1: Home

func TestHome(t *testing.T) {
	for _, c := range []struct{ log, pages, page, want int }{
		{1, 1, 0, 3}, {1, 1, 1, -1}, {1, 1, -1, -1}, {7, 5, 0, 9}, {7, 5, 4, 13}, {7, 5, 5, -1}, {64, 64, 63, 129}, {64, 64, 64, -1},
		{1, 0, 0, -1}, {1, -1, 0, -1}, {1, -1, -2, -1}, {1, 5, math.MaxInt, -1}, {1, 5, math.MinInt, -1}, {0, 0, 0, -1},
	} {
		if got := root.Home(api.Root{Log: c.log, Pages: c.pages, Epoch: 1}, c.page); got != c.want {
			t.Errorf("Home(%d %d, %d) is %d, not %d", c.log, c.pages, c.page, got, c.want)
		}
	}
}

// R2, R5

func TestWhatIsHandedInStays(t *testing.T) {
	b := append(written(1, 2, 3), 77)[:api.Sector]
	root.Read(b)
	if !bytes.Equal(b[:api.Sector+1], append(written(1, 2, 3), 77)) {
		t.Error("Read changes its argument")
	}
	got := root.Bytes(api.Root{Log: 1, Pages: 2, Epoch: 3})
	got = got[:cap(got)]
	for i := range got {
		got[i] = 99
	}
	if !bytes.Equal(root.Bytes(api.Root{Log: 1, Pages: 2, Epoch: 3}), written(1, 2, 3)) {
		t.Error("two answers share memory")
	}
}
