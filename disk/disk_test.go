package disk_test

import (
	"bytes"
	"math"
	"slices"
	"testing"

	"engram/api"
	"engram/disk"
)

// filled is a sector of which each byte is n.
func filled(n byte) []byte { return bytes.Repeat([]byte{n}, api.Sector) }

// joined is a sector that begins with cut bytes of a and goes on with those of b.
func joined(a, b byte, cut int) []byte {
	return append(filled(a)[:cut:cut], filled(b)[cut:]...)
}

// expect holds all that d tells against what it should.
func expect(t *testing.T, what string, d *disk.Disk, image, seen []byte, waits ...int) {
	t.Helper()
	if d == nil {
		t.Fatalf("%s: no disk", what)
	}
	if d.Len()*api.Sector != len(image) {
		t.Errorf("%s: Len %d, not %d", what, d.Len(), len(image)/api.Sector)
	}
	if !bytes.Equal(d.Image(), image) {
		t.Errorf("%s: Image %v, not %v", what, d.Image(), image)
	}
	if !bytes.Equal(d.Seen(), seen) {
		t.Errorf("%s: Seen %v, not %v", what, d.Seen(), seen)
	}
	if !slices.Equal(d.Waits(), waits) {
		t.Errorf("%s: Waits %v, not %v", what, d.Waits(), waits)
	}
	for i := range d.Len() {
		b, ok := d.Read(i)
		if !ok || !bytes.Equal(b, seen[i*api.Sector:(i+1)*api.Sector]) {
			t.Errorf("%s: Read(%d) %v %v", what, i, b, ok)
		}
	}
}

func write(t *testing.T, d *disk.Disk, i int, b []byte) {
	t.Helper()
	if !d.Write(i, b) {
		t.Fatalf("Write(%d) is refused", i)
	}
}

// P1.1

func TestNewIsZeros(t *testing.T) {
	for _, n := range []int{1, 2, 7, api.MaxSectors - 1, api.MaxSectors} {
		zeros := make([]byte, n*api.Sector)
		expect(t, "New", disk.New(n), zeros, zeros)
	}
}

func TestNewRefuses(t *testing.T) {
	for _, n := range []int{0, -1, -api.Sector, api.MaxSectors + 1, math.MaxInt, math.MinInt, math.MaxInt/api.Sector + 2} {
		if disk.New(n) != nil {
			t.Errorf("New(%d) makes a disk", n)
		}
	}
}

func TestOfLasts(t *testing.T) {
	for _, n := range []int{1, 2, 3, api.MaxSectors} {
		image := make([]byte, n*api.Sector)
		for i := range image {
			image[i] = byte(i*7 + n)
		}
		expect(t, "Of", disk.Of(image), image, image)
	}
}

func TestOfRefuses(t *testing.T) {
	const most = api.MaxSectors * api.Sector
	for _, n := range []int{0, 1, api.Sector - 1, api.Sector + 1, 2*api.Sector - 1, most - 1, most + 1, most + api.Sector} {
		if disk.Of(make([]byte, n)) != nil {
			t.Errorf("Of %d bytes makes a disk", n)
		}
	}
	if disk.Of(nil) != nil {
		t.Error("Of(nil) makes a disk")
	}
	if disk.Of(make([]byte, api.Sector-1, api.Sector)) != nil {
		t.Error("Of reads the room behind the image's length")
	}
}

func TestReadOfNoSector(t *testing.T) {
	d := disk.Of(filled(1))
	for _, i := range []int{-1, 1, 2, math.MaxInt, math.MinInt} {
		if b, ok := d.Read(i); ok || len(b) != 0 {
			t.Errorf("Read(%d) tells %v %v", i, b, ok)
		}
	}
}

func TestWriteWaits(t *testing.T) {
	d := disk.New(3)
	zeros := make([]byte, 3*api.Sector)
	write(t, d, 2, filled(3))
	expect(t, "one", d, zeros, slices.Concat(filled(0), filled(0), filled(3)), 2)
	write(t, d, 0, filled(1))
	expect(t, "rising", d, zeros, slices.Concat(filled(1), filled(0), filled(3)), 0, 2)
	write(t, d, 2, filled(4))
	expect(t, "the later one", d, zeros, slices.Concat(filled(1), filled(0), filled(4)), 0, 2)
}

func TestWriteOfTheLastingBytesWaits(t *testing.T) {
	d := disk.Of(filled(5))
	write(t, d, 0, filled(5))
	expect(t, "the same", d, filled(5), filled(5), 0)
	write(t, d, 0, filled(6))
	write(t, d, 0, filled(5))
	expect(t, "there and back", d, filled(5), filled(5), 0)
	if n := d.Crash(9); n != 1 {
		t.Errorf("Crash tells %d", n)
	}
	expect(t, "crashed", d, filled(5), filled(5))
}

func TestWriteRefusesAndTurnsNothing(t *testing.T) {
	d := disk.New(2)
	write(t, d, 1, filled(1))
	for _, c := range []struct {
		i int
		b []byte
	}{
		{-1, filled(2)}, {2, filled(2)}, {math.MaxInt, filled(2)}, {math.MinInt, filled(2)},
		{0, nil}, {0, []byte{}}, {0, filled(2)[1:]}, {0, append(filled(2), 2)}, {1, append(filled(2), filled(2)...)},
		{0, filled(2)[:api.Sector-1]}, {-1, nil}, {2, filled(2)[1:]},
	} {
		if d.Write(c.i, c.b) {
			t.Errorf("Write(%d, %d bytes) is taken", c.i, len(c.b))
		}
		expect(t, "refused", d, make([]byte, 2*api.Sector), append(filled(0), filled(1)...), 1)
	}
}

func TestFlushLasts(t *testing.T) {
	d := disk.New(3)
	d.Flush()
	zeros := make([]byte, 3*api.Sector)
	expect(t, "nothing waits", d, zeros, zeros)
	write(t, d, 1, filled(1))
	write(t, d, 2, filled(2))
	write(t, d, 1, filled(3))
	d.Flush()
	want := slices.Concat(filled(0), filled(3), filled(2))
	expect(t, "flushed", d, want, want)
	d.Flush()
	if n := d.Crash(7, 7, 7); n != 0 {
		t.Errorf("Crash behind a Flush tells %d", n)
	}
	expect(t, "flushed, crashed", d, want, want)
}

// P1.2

func TestCrashKeepsThreeOnes(t *testing.T) {
	d := disk.New(2)
	write(t, d, 1, filled(1))
	if n := d.Crash(3); n != 1 {
		t.Errorf("Crash tells %d", n)
	}
	want := append(filled(0), joined(1, 0, 3)...)
	expect(t, "three ones", d, want, want)
}

func TestCrashHoldsCuts(t *testing.T) {
	for _, c := range []struct {
		cuts []int
		kept int
	}{
		{nil, 0}, {[]int{}, 0}, {[]int{0}, 0}, {[]int{1}, 1}, {[]int{api.Sector - 1}, api.Sector - 1}, {[]int{api.Sector}, api.Sector},
		{[]int{api.Sector + 1}, api.Sector}, {[]int{math.MaxInt}, api.Sector}, {[]int{-1}, 0}, {[]int{math.MinInt}, 0},
		{[]int{5, 9, math.MaxInt}, 5}, {[]int{7}[:0], 0}, {[]int{256 + 3}, api.Sector},
	} {
		d := disk.Of(filled(1))
		write(t, d, 0, filled(2))
		if n := d.Crash(c.cuts...); n != 1 {
			t.Errorf("Crash(%v) tells %d", c.cuts, n)
		}
		want := joined(2, 1, c.kept)
		expect(t, "cut", d, want, want)
	}
}

func TestCrashGivesCutsToThoseThatWaitRising(t *testing.T) {
	image := slices.Concat(filled(10), filled(11), filled(12), filled(13), filled(14))
	for _, c := range []struct {
		cuts []int
		kept [3]int
	}{
		{[]int{1, 2, 3}, [3]int{1, 2, 3}},
		{[]int{1, 2}, [3]int{1, 2, 0}},
		{[]int{-4, 99}, [3]int{0, api.Sector, 0}},
		{[]int{api.Sector, 0, 63, 8, 8}, [3]int{api.Sector, 0, 63}},
		{nil, [3]int{}},
	} {
		d := disk.Of(image)
		for _, i := range []int{4, 1, 3, 1} {
			write(t, d, i, filled(byte(20+i)))
		}
		if n := d.Crash(c.cuts...); n != 3 {
			t.Errorf("Crash(%v) tells %d", c.cuts, n)
		}
		want := slices.Concat(filled(10), joined(21, 11, c.kept[0]), filled(12), joined(23, 13, c.kept[1]), joined(24, 14, c.kept[2]))
		expect(t, "cuts", d, want, want)
	}
}

func TestCrashOfNothingThatWaits(t *testing.T) {
	d := disk.Of(filled(1))
	if n := d.Crash(1, 2, 3) + d.Crash(); n != 0 {
		t.Errorf("Crash tells %d", n)
	}
	expect(t, "crashed", d, filled(1), filled(1))
}

func TestWhatCrashKeptLasts(t *testing.T) {
	d := disk.Of(filled(1))
	write(t, d, 0, filled(2))
	d.Crash(9)
	if n := d.Crash(api.Sector); n != 0 {
		t.Errorf("the second Crash tells %d", n)
	}
	write(t, d, 0, filled(3))
	d.Crash(4)
	want := slices.Concat(filled(3)[:4], filled(2)[:5], filled(1)[9:])
	expect(t, "torn twice", d, want, want)
}

func TestOnlyTheLaterWriteIsTorn(t *testing.T) {
	d := disk.Of(filled(1))
	write(t, d, 0, filled(2))
	write(t, d, 0, filled(3))
	d.Crash(10)
	want := joined(3, 1, 10)
	expect(t, "torn", d, want, want)
}

// R2

func TestNothingHandedInIsKeptOrChanged(t *testing.T) {
	image := append(filled(1), filled(2)...)
	given := slices.Clone(image)
	room := append(given, filled(77)...)
	d := disk.Of(room[:len(given)])
	b := append(filled(3), filled(78)...)
	write(t, d, 0, b[:api.Sector])
	cuts := []int{-5, 99, 12}
	if d.Crash(cuts[:1]...) != 1 {
		t.Error("Crash")
	}
	write(t, d, 1, b[:api.Sector])
	if !slices.Equal(cuts, []int{-5, 99, 12}) || !bytes.Equal(b, append(filled(3), filled(78)...)) || !bytes.Equal(room, append(slices.Clone(image), filled(77)...)) {
		t.Error("an argument is changed")
	}
	for i := range room {
		room[i] = 99
	}
	for i := range b {
		b[i] = 99
	}
	expect(t, "kept", d, image, append(filled(1), filled(3)...), 1)
}

func TestAnswersAreNew(t *testing.T) {
	d := disk.Of(append(filled(1), filled(2)...))
	write(t, d, 0, filled(3))
	for i := range d.Len() {
		b, _ := d.Read(i)
		spoil(b)
	}
	spoil(d.Image())
	spoil(d.Seen())
	w := d.Waits()
	w = w[:cap(w)]
	for i := range w {
		w[i] = 99
	}
	expect(t, "spoilt", d, append(filled(1), filled(2)...), append(filled(3), filled(2)...), 0)
}

// spoil writes over b and the room behind it.
func spoil(b []byte) {
	b = b[:cap(b)]
	for i := range b {
		b[i] = 99
	}
}

func TestDisksAreApart(t *testing.T) {
	a := disk.New(1)
	b := disk.Of(a.Image())
	write(t, a, 0, filled(1))
	write(t, b, 0, filled(2))
	a.Flush()
	expect(t, "a", a, filled(1), filled(1))
	expect(t, "b", b, filled(0), filled(2), 0)
}

// plain is a disk once more: lasting sectors, and those that wait by their numbers.
type plain struct {
	lasting [][]byte
	waiting map[int][]byte
}

func (p *plain) waits() []int {
	var l []int
	for i := range p.lasting {
		if p.waiting[i] != nil {
			l = append(l, i)
		}
	}
	return l
}

func (p *plain) seen() []byte {
	var all []byte
	for i, b := range p.lasting {
		if w := p.waiting[i]; w != nil {
			b = w
		}
		all = append(all, b...)
	}
	return all
}

func (p *plain) crash(cuts []int) int {
	l := p.waits()
	for k, i := range l {
		for at := range api.Sector {
			if k < len(cuts) && at < cuts[k] {
				p.lasting[i][at] = p.waiting[i][at]
			}
		}
	}
	clear(p.waiting)
	return len(l)
}

// steps is a row of numbers that is the same in every run.
type steps uint64

func (s *steps) below(n int) int {
	*s = *s*6364136223846793005 + 1442695040888963407
	return int(*s >> 33 % steps(n))
}

func TestLongRowsOfCalls(t *testing.T) {
	for seed := range 40 {
		s := steps(seed)
		n := 1 + s.below(9)
		d, p := disk.New(n), &plain{waiting: map[int][]byte{}}
		for range n {
			p.lasting = append(p.lasting, filled(0))
		}
		for range 120 {
			step(t, &s, d, p)
			expect(t, "row", d, bytes.Join(p.lasting, nil), p.seen(), p.waits()...)
		}
		if t.Failed() {
			t.Fatalf("row %d", seed)
		}
	}
}

// step does one deed to both disks.
func step(t *testing.T, s *steps, d *disk.Disk, p *plain) {
	switch s.below(8) {
	case 0:
		d.Flush()
		p.crash(slices.Repeat([]int{api.Sector}, d.Len()))
	case 1:
		cuts := make([]int, s.below(d.Len()+2))
		for i := range cuts {
			cuts[i] = s.below(api.Sector+8) - 4
		}
		if got, want := d.Crash(cuts...), p.crash(cuts); got != want {
			t.Errorf("Crash(%v) tells %d, not %d", cuts, got, want)
		}
	default:
		i, b := s.below(d.Len()), filled(0)
		for at := range b {
			b[at] = byte(s.below(256))
		}
		write(t, d, i, b)
		p.waiting[i] = b
	}
}
