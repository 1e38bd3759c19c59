package heal_test

import (
	"bytes"
	"math"
	"slices"
	"testing"

	"engram/api"
	"engram/delta"
	"engram/disk"
	"engram/frame"
	"engram/heal"
	"engram/root"
	"engram/store"
)

// page is a page whose bytes count from n on.
func page(n int) []byte {
	b := make([]byte, api.Sector)
	for i := range b {
		b[i] = byte(n + i)
	}
	return b
}

func change(at, n int) api.Change { return api.Change{Page: at, B: page(n)} }

func of(epoch uint32) []byte { return root.Bytes(api.Root{Log: 9, Pages: 4, Epoch: epoch}) }

// logged is the bytes of a disk of nine sectors of log and four pages, of the epoch 5, whose log holds these.
func logged(l ...[]api.Change) []byte {
	b := make([]byte, 15*api.Sector)
	copy(b, of(4))
	copy(b[api.Sector:], of(5))
	at := 2 * api.Sector
	for i, c := range l {
		at += copy(b[at:], frame.Bytes(5, uint32(i), delta.Bytes(c)))
	}
	for i := range 4 {
		copy(b[(11+i)*api.Sector:], page(i))
	}
	return b
}

// state is all that a disk tells.
type state struct {
	lasting, seen []byte
	waits         []int
}

func told(d *disk.Disk) state { return state{d.Image(), d.Seen(), d.Waits()} }

func expectState(t *testing.T, what string, d *disk.Disk, want state) {
	t.Helper()
	got := told(d)
	if !bytes.Equal(got.lasting, want.lasting) || !bytes.Equal(got.seen, want.seen) || !slices.Equal(got.waits, want.waits) {
		t.Errorf("%s: the disk is otherwise: waits %v, not %v", what, got.waits, want.waits)
	}
}

func expectDeeds(t *testing.T, what string, d *disk.Disk, want int) {
	t.Helper()
	var before state
	if d != nil {
		before = told(d)
	}
	if got := heal.Deeds(d); got != want {
		t.Errorf("%s: Deeds are %d, not %d", what, got, want)
	}
	if d != nil {
		expectState(t, what, d, before)
	}
}

// P19.1: Deeds

func TestDeeds(t *testing.T) {
	expectDeeds(t, "no log", disk.Of(logged()), 4)
	expectDeeds(t, "a record of none", disk.Of(logged(nil)), 4)
	expectDeeds(t, "one page", disk.Of(logged([]api.Change{change(2, 9)})), 5)
	expectDeeds(t, "a page as it is", disk.Of(logged([]api.Change{change(2, 2)})), 5)
	expectDeeds(t, "a page twice", disk.Of(logged([]api.Change{change(2, 9)}, []api.Change{change(2, 2)})), 5)
	expectDeeds(t, "some", disk.Of(logged([]api.Change{change(2, 9), change(3, 1)}, []api.Change{change(0, 2)})), 7)
	expectDeeds(t, "all", disk.Of(logged([]api.Change{change(0, 9), change(1, 1)}, nil, []api.Change{change(2, 2), change(3, 2)})), 8)
	d := disk.Of(logged([]api.Change{change(2, 9)}))
	d.Write(2, make([]byte, api.Sector))
	expectDeeds(t, "a log that was written over", d, 4)
	d = disk.New(9)
	store.Format(d, 3, 4)
	expectDeeds(t, "formatted", d, 4)
}

func TestDeedsOfWhatIsRefused(t *testing.T) {
	expectDeeds(t, "no disk", nil, 0)
	expectDeeds(t, "zeros", disk.New(9), 0)
	expectDeeds(t, "one sector", disk.New(1), 0)
	b := logged([]api.Change{change(2, 9)})
	copy(b[api.Sector:], of(math.MaxUint32))
	expectDeeds(t, "the last epoch", disk.Of(b), 0)
	copy(b[api.Sector:], of(math.MaxUint32-1))
	expectDeeds(t, "the last but one", disk.Of(b), 4)
	for _, n := range []int{-1, 0, 1, 9, math.MaxInt} {
		for _, d := range []*disk.Disk{nil, disk.New(9)} {
			if got := heal.Part(d, n); got != 0 {
				t.Errorf("Part(%d) of what is refused: %d", n, got)
			}
		}
	}
}

// P19.1: Part

// handMade tells the states of a disk behind each deed of store.Open, done here by hand: pages 0 and 2 are named by the log.
func handMade(t *testing.T) (*disk.Disk, []state) {
	t.Helper()
	d := disk.Of(logged([]api.Change{change(0, 50), change(2, 60)}, []api.Change{change(2, 70)}))
	d.Write(14, page(90))
	var l []state
	l = append(l, told(d))
	for _, deed := range []func(){
		d.Flush,
		func() { d.Write(11, page(50)) }, func() { d.Write(13, page(70)) }, d.Flush,
		func() { d.Write(0, of(6)) }, d.Flush,
	} {
		deed()
		l = append(l, told(d))
	}
	return d, l
}

func TestPart(t *testing.T) {
	_, states := handMade(t)
	for _, c := range [][2]int{{math.MinInt, 0}, {-1, 0}, {0, 0}, {1, 1}, {2, 2}, {3, 3}, {4, 4}, {5, 5}, {6, 6}, {7, 6}, {99, 6}, {math.MaxInt, 6}} {
		d := disk.Of(states[0].lasting)
		d.Write(14, page(90))
		if got := heal.Part(d, c[0]); got != c[1] {
			t.Errorf("Part(%d) is %d", c[0], got)
		}
		expectState(t, "Part", d, states[c[1]])
	}
}

func TestPartOfAllIsOpen(t *testing.T) {
	for _, b := range [][]byte{logged(), logged(nil), logged([]api.Change{change(0, 50), change(2, 60)}), logged([]api.Change{change(3, 50)}, []api.Change{change(0, 2), change(1, 60)})} {
		d, other := disk.Of(b), disk.Of(b)
		n := heal.Deeds(d)
		if got := heal.Part(d, n); got != n {
			t.Errorf("Part(%d) is %d", n, got)
		}
		if _, e := store.Open(other); e != api.OK {
			t.Fatalf("Open: %d", e)
		}
		expectState(t, "all", d, told(other))
		// The next Open finds an empty log, and the later root.
		expectDeeds(t, "behind all", d, 4)
		// The roots take turns.
		for range 5 {
			if got := heal.Part(d, math.MaxInt); got != 4 {
				t.Errorf("Part of all is %d", got)
			}
			store.Open(other)
			expectState(t, "once more", d, told(other))
		}
	}
}

// P19.2

// pages are what store.Open comes to on a disk of these bytes.
func pages(t *testing.T, b []byte) []byte {
	t.Helper()
	s, e := store.Open(disk.Of(b))
	if e != api.OK {
		t.Fatalf("Open: %d", e)
	}
	return bytes.Join(s.All(), nil)
}

// stretch is one cut for each sector that waits.
func stretch(d *disk.Disk, cut func(i int) int) []int {
	var l []int
	for i := range d.Waits() {
		l = append(l, cut(i))
	}
	return l
}

func TestHealingIsCutAnywhere(t *testing.T) {
	b := logged([]api.Change{change(0, 50), change(2, 60)}, []api.Change{change(1, 4), change(2, 70)})
	want := pages(t, b)
	for n := range heal.Deeds(disk.Of(b)) + 1 {
		for cut := range api.Sector + 1 {
			for _, f := range []func(i int) int{func(int) int { return cut }, func(i int) int { return cut * (i % 2) }, func(i int) int { return cut * (1 - i%2) }} {
				d := disk.Of(b)
				heal.Part(d, n)
				d.Crash(stretch(d, f)...)
				if !bytes.Equal(pages(t, d.Image()), want) {
					t.Fatalf("cut short at deed %d, sectors at %d: other pages", n, cut)
				}
			}
		}
	}
}

func TestHealingIsCutAgainAndAgain(t *testing.T) {
	r := uint64(1)
	below := func(n int) int {
		r = r*6364136223846793005 + 1442695040888963407
		return int(r >> 33 % uint64(n))
	}
	for range 400 {
		var l [][]api.Change
		for range below(4) {
			var c []api.Change
			for p := range 4 {
				if below(3) == 0 && len(c) < 2 {
					c = append(c, change(p, below(256)))
				}
			}
			l = append(l, c)
		}
		b := logged(l...)
		want, d := pages(t, b), disk.Of(b)
		for range 1 + below(6) {
			heal.Part(d, below(heal.Deeds(d)+1))
			d.Crash(stretch(d, func(int) int { return []int{0, api.Sector, below(api.Sector + 1)}[below(3)] })...)
			if len(d.Waits()) > 0 || !bytes.Equal(pages(t, d.Image()), want) {
				t.Fatalf("%v: other pages", l)
			}
		}
		s, _ := store.Open(d)
		if !bytes.Equal(bytes.Join(s.All(), nil), want) {
			t.Fatalf("%v: other pages at last", l)
		}
	}
}
