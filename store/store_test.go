package store_test

import (
	"bytes"
	"math"
	"slices"
	"testing"

	"engram/api"
	"engram/delta"
	"engram/disk"
	"engram/frame"
	"engram/root"
	"engram/store"
)

// page is a page whose bytes count from n on.
func page(n int) []byte {
	b := make([]byte, api.Sector)
	for i := range b {
		b[i] = byte(n + i)
	}
	return b
}

func change(at, n int) api.Change { return api.Change{Page: at, B: page(n)} }

// formatted is a disk of so many sectors, of which none is zeros ahead of Format.
func formatted(t *testing.T, sectors, log, pages int) *disk.Disk {
	t.Helper()
	d := disk.Of(bytes.Repeat([]byte{0xee}, sectors*api.Sector))
	if e := store.Format(d, log, pages); e != api.OK {
		t.Fatalf("Format: %d", e)
	}
	return d
}

func opened(t *testing.T, d *disk.Disk) *store.Store {
	t.Helper()
	s, e := store.Open(d)
	if e != api.OK || s == nil {
		t.Fatalf("Open: %d", e)
	}
	return s
}

func expectPages(t *testing.T, what string, s *store.Store, want ...[]byte) {
	t.Helper()
	if got := s.All(); !slices.EqualFunc(got, want, bytes.Equal) {
		t.Errorf("%s: All is %v, not %v", what, got, want)
	}
	for i := range want {
		if got := s.Page(i); !bytes.Equal(got, want[i]) {
			t.Errorf("%s: Page(%d) is %v, not %v", what, i, got, want[i])
		}
	}
	for _, i := range []int{-1, len(want), math.MaxInt, math.MinInt} {
		if len(s.Page(i)) > 0 {
			t.Errorf("%s: Page(%d) is there", what, i)
		}
	}
}

func expectLog(t *testing.T, what string, s *store.Store, epoch uint32, used int, seq uint32) {
	t.Helper()
	if s.Root().Epoch != epoch || s.Used() != used || s.Seq() != seq {
		t.Errorf("%s: Epoch %d, Used %d, Seq %d, not %d, %d, %d", what, s.Root().Epoch, s.Used(), s.Seq(), epoch, used, seq)
	}
}

func expectCommit(t *testing.T, s *store.Store, want api.Errno, l ...api.Change) {
	t.Helper()
	if got := s.Commit(l...); got != want {
		t.Errorf("Commit of %d changes: %d, not %d", len(l), got, want)
	}
}

// image is sectors one behind the other, with zeros where there is none, and pages of them in all.
func image(sectors int, at map[int][]byte) []byte {
	b := make([]byte, sectors*api.Sector)
	for i, s := range at {
		copy(b[i*api.Sector:], s)
	}
	return b
}

func expectDisk(t *testing.T, what string, d *disk.Disk, lasting, seen []byte, waits ...int) {
	t.Helper()
	if !bytes.Equal(d.Image(), lasting) {
		t.Errorf("%s: Image %v, not %v", what, d.Image(), lasting)
	}
	if !bytes.Equal(d.Seen(), seen) {
		t.Errorf("%s: Seen %v, not %v", what, d.Seen(), seen)
	}
	if !slices.Equal(d.Waits(), waits) {
		t.Errorf("%s: Waits %v, not %v", what, d.Waits(), waits)
	}
}

func of(log, pages int, epoch uint32) []byte {
	return root.Bytes(api.Root{Log: log, Pages: pages, Epoch: epoch})
}

// P18.1

func TestFormat(t *testing.T) {
	for _, c := range []struct{ log, pages, sectors int }{{1, 1, 4}, {3, 4, 9}, {3, 4, 12}, {64, 64, 160}, {64, 1, 67}, {1, 64, 67}} {
		d := formatted(t, c.sectors, c.log, c.pages)
		want := bytes.Repeat([]byte{0xee}, c.sectors*api.Sector)
		copy(want, image(2+c.log+c.pages, map[int][]byte{1: of(c.log, c.pages, 1)}))
		expectDisk(t, "formatted", d, want, want)
	}
}

func TestFormatAgain(t *testing.T) {
	d := formatted(t, 9, 3, 4)
	s := opened(t, d)
	expectCommit(t, s, api.OK, change(0, 5), change(3, 7))
	s.Checkpoint()
	expectCommit(t, s, api.OK, change(1, 5))
	if e := store.Format(d, 2, 3); e != api.OK {
		t.Fatalf("Format: %d", e)
	}
	want := bytes.Repeat([]byte{0}, 9*api.Sector)
	copy(want[api.Sector:], of(2, 3, 1))
	// What lies behind the pages is left: page 2 as it was, page 3.
	copy(want[8*api.Sector:], page(7))
	copy(want[7*api.Sector:], make([]byte, api.Sector))
	expectDisk(t, "formatted again", d, want, want)
	s = opened(t, d)
	expectPages(t, "formatted again", s, page0, page0, page0)
}

var page0 = make([]byte, api.Sector)

func TestFormatRefuses(t *testing.T) {
	if e := store.Format(nil, 1, 1); e != api.ErrArg {
		t.Errorf("Format of no disk: %d", e)
	}
	if e := store.Format(nil, 0, 0); e != api.ErrArg {
		t.Errorf("Format of no disk, no log: %d", e)
	}
	d := disk.Of(bytes.Repeat([]byte{0xee}, 9*api.Sector))
	d.Write(1, page(3))
	lasting, seen := d.Image(), d.Seen()
	for _, c := range [][2]int{{0, 1}, {1, 0}, {-1, 4}, {3, -4}, {3, 5}, {4, 4}, {7, 1}, {1, 7}, {65, 1}, {1, 65}, {math.MaxInt, math.MaxInt}, {math.MinInt, math.MinInt}, {math.MaxInt, 3}} {
		if e := store.Format(d, c[0], c[1]); e != api.ErrSize {
			t.Errorf("Format of %v: %d", c, e)
		}
	}
	expectDisk(t, "refused", d, lasting, seen, 1)
	if e := store.Format(disk.New(3), 1, 1); e != api.ErrSize {
		t.Errorf("Format of three sectors: %d", e)
	}
	if e := store.Format(disk.New(160), 65, 64); e != api.ErrSize {
		t.Errorf("Format of a log too long: %d", e)
	}
}

// P18.2

func TestOpenRefuses(t *testing.T) {
	refuse := func(what string, d *disk.Disk, want api.Errno) {
		t.Helper()
		var before []byte
		if d != nil {
			before = d.Seen()
		}
		s, e := store.Open(d)
		if s != nil || e != want {
			t.Errorf("%s: %v, %d", what, s, e)
		}
		if d != nil && !bytes.Equal(d.Seen(), before) {
			t.Errorf("%s: the disk is turned", what)
		}
	}
	refuse("no disk", nil, api.ErrArg)
	refuse("zeros", disk.New(9), api.ErrNone)
	refuse("one sector", disk.New(1), api.ErrNone)
	refuse("a root that does not go in", disk.Of(image(8, map[int][]byte{1: of(3, 4, 1)})), api.ErrNone)
	refuse("a root of no epoch", disk.Of(image(9, map[int][]byte{0: of(3, 4, 0)})), api.ErrNone)
	refuse("a root in another place", disk.Of(image(9, map[int][]byte{2: of(3, 4, 1)})), api.ErrNone)
	refuse("the last epoch", disk.Of(image(9, map[int][]byte{1: of(3, 4, math.MaxUint32)})), api.ErrFull)
	refuse("the last epoch beside another", disk.Of(image(9, map[int][]byte{0: of(3, 4, math.MaxUint32-1), 1: of(3, 4, math.MaxUint32)})), api.ErrFull)
	d := disk.Of(image(9, map[int][]byte{1: of(3, 4, math.MaxUint32)}))
	d.Write(8, page(1))
	refuse("the last epoch, what waits", d, api.ErrFull)
	if !slices.Equal(d.Waits(), []int{8}) {
		t.Error("a refused Open flushes")
	}
}

func TestOpenOfAFormattedDisk(t *testing.T) {
	d := formatted(t, 9, 3, 4)
	s := opened(t, d)
	if s.Root() != (api.Root{Log: 3, Pages: 4, Epoch: 2}) {
		t.Errorf("Root is %v", s.Root())
	}
	expectLog(t, "new", s, 2, 0, 0)
	expectPages(t, "new", s, page0, page0, page0, page0)
	want := image(9, map[int][]byte{0: of(3, 4, 2), 1: of(3, 4, 1)})
	expectDisk(t, "opened", d, want, want)
	s = opened(t, d)
	want = image(9, map[int][]byte{0: of(3, 4, 2), 1: of(3, 4, 3)})
	expectLog(t, "twice", s, 3, 0, 0)
	expectDisk(t, "opened twice", d, want, want)
}

// joined is bytes as the log's sectors, from sector 2 on.
func joined(at map[int][]byte, l ...[]byte) map[int][]byte {
	at[2] = bytes.Join(l, nil)
	return at
}

func record(epoch, seq uint32, l ...api.Change) []byte {
	return frame.Bytes(epoch, seq, delta.Bytes(l))
}

func TestOpenTakesTheLog(t *testing.T) {
	log := [][]byte{record(5, 0, change(0, 10), change(2, 12)), record(5, 1), record(5, 2, change(2, 22)), record(5, 3, change(3, 33))}
	before := joined(map[int][]byte{0: of(9, 4, 4), 1: of(9, 4, 5), 11: page(1), 12: page(2), 13: page(3), 14: page(4)}, log...)
	d := disk.Of(image(15, before))
	s := opened(t, d)
	expectPages(t, "of the log", s, page(10), page(2), page(22), page(33))
	expectLog(t, "of the log", s, 6, 0, 0)
	want := image(15, joined(map[int][]byte{0: of(9, 4, 6), 1: of(9, 4, 5), 11: page(10), 12: page(2), 13: page(22), 14: page(33)}, log...))
	expectDisk(t, "of the log", d, want, want)
}

func TestOpenPassesByWhatIsNoRecord(t *testing.T) {
	log := [][]byte{record(5, 0, change(0, 10)), record(4, 1, change(1, 11)), record(5, 1, change(2, 12))}
	for what, l := range map[string][][]byte{
		"an elder epoch": log, "another seq": {log[0], record(5, 2, change(1, 11))}, "a page too many": {log[0], record(5, 1, change(4, 11))}, "falling pages": {log[0], record(5, 1, change(2, 11), change(1, 12))}, "no changes": {log[0], frame.Bytes(5, 1, []byte{9}), record(5, 2, change(1, 11))},
	} {
		d := disk.Of(image(15, joined(map[int][]byte{1: of(9, 4, 5), 11: page(1), 12: page(2), 13: page(3), 14: page(4)}, l...)))
		expectPages(t, what, opened(t, d), page(10), page(2), page(3), page(4))
	}
}

func TestOpenTakesTheLaterRoot(t *testing.T) {
	d := disk.Of(image(9, map[int][]byte{0: of(3, 4, 8), 1: of(2, 3, 7), 4: page(1), 5: page(2)}))
	s := opened(t, d)
	expectPages(t, "the later root", s, page(2), page0, page0, page0)
	want := image(9, map[int][]byte{0: of(3, 4, 8), 1: of(3, 4, 9), 4: page(1), 5: page(2)})
	expectDisk(t, "the later root", d, want, want)
}

func TestOpenFlushesWhatWaits(t *testing.T) {
	d := formatted(t, 9, 3, 4)
	d.Write(5, page(9))
	s := opened(t, d)
	expectPages(t, "what waits", s, page(9), page0, page0, page0)
	want := image(9, map[int][]byte{0: of(3, 4, 2), 1: of(3, 4, 1), 5: page(9)})
	expectDisk(t, "what waits", d, want, want)
}

func TestTheLastEpochs(t *testing.T) {
	d := disk.Of(image(9, map[int][]byte{0: of(3, 4, math.MaxUint32-1)}))
	s := opened(t, d)
	expectLog(t, "the last epoch", s, math.MaxUint32, 0, 0)
	expectCommit(t, s, api.OK, change(1, 5))
	before, seen := d.Image(), d.Seen()
	if e := s.Checkpoint(); e != api.ErrFull {
		t.Errorf("Checkpoint of the last epoch: %d", e)
	}
	expectDisk(t, "refused", d, before, seen, 2, 3)
	expectLog(t, "refused", s, math.MaxUint32, 84, 1)
	expectPages(t, "refused", s, page0, page(5), page0, page0)
	expectCommit(t, s, api.OK, change(2, 6))
	if s, e := store.Open(d); s != nil || e != api.ErrFull {
		t.Errorf("Open of the last epoch: %d", e)
	}
}

// P18.3

func TestCommit(t *testing.T) {
	d := formatted(t, 15, 9, 4)
	s := opened(t, d)
	lasting := d.Image()
	log := []byte(nil)
	for i, c := range []struct {
		l     []api.Change
		waits []int
		pages [4]int
	}{
		{nil, []int{2}, [4]int{-1, -1, -1, -1}},
		{[]api.Change{change(1, 20)}, []int{2, 3}, [4]int{-1, 20, -1, -1}},
		{[]api.Change{change(0, 1), change(1, 2), change(2, 3), change(3, 4)}, []int{2, 3, 4, 5, 6, 7}, [4]int{1, 2, 3, 4}},
		{[]api.Change{change(3, 9)}, []int{2, 3, 4, 5, 6, 7, 8, 9}, [4]int{1, 2, 3, 9}},
		{[]api.Change{change(3, 9)}, []int{2, 3, 4, 5, 6, 7, 8, 9, 10}, [4]int{1, 2, 3, 9}},
	} {
		expectCommit(t, s, api.OK, c.l...)
		log = append(log, record(2, uint32(i), c.l...)...)
		expectLog(t, "committed", s, 2, len(log), uint32(i+1))
		var want [][]byte
		for _, n := range c.pages {
			if n < 0 {
				want = append(want, page0)
			} else {
				want = append(want, page(n))
			}
		}
		expectPages(t, "committed", s, want...)
		seen := slices.Clone(lasting)
		copy(seen[2*api.Sector:], log)
		expectDisk(t, "committed", d, lasting, seen, c.waits...)
	}
}

func TestCommitRefuses(t *testing.T) {
	d := formatted(t, 9, 3, 4)
	s := opened(t, d)
	expectCommit(t, s, api.OK, change(2, 1))
	lasting, seen := d.Image(), d.Seen()
	for _, l := range [][]api.Change{
		{change(4, 1)}, {change(-1, 1)}, {change(math.MaxInt, 1)}, {change(math.MinInt, 1)}, {change(1, 1), change(0, 2)}, {change(1, 1), change(1, 1)}, {{Page: 1}}, {{Page: 1, B: page(1)[1:]}}, {{Page: 1, B: append(page(1), 0)}}, {change(0, 1), {Page: 1, B: nil}},
		{change(0, 1), change(1, 1), change(2, 1), change(3, 1), change(4, 1)},
	} {
		expectCommit(t, s, api.ErrArg, l...)
	}
	// 108 bytes are left: a frame of one change goes in, one of two does not.
	expectCommit(t, s, api.ErrFull, change(0, 1), change(1, 1))
	expectCommit(t, s, api.ErrFull, change(0, 1), change(1, 1), change(2, 1), change(3, 1))
	expectCommit(t, s, api.ErrArg, change(0, 1), change(4, 1))
	expectDisk(t, "refused", d, lasting, seen, 2, 3)
	expectLog(t, "refused", s, 2, 84, 1)
	expectPages(t, "refused", s, page0, page0, page(1), page0)
	expectCommit(t, s, api.OK, change(0, 6))
	expectLog(t, "one more", s, 2, 168, 2)
	expectCommit(t, s, api.OK)
	expectLog(t, "none", s, 2, 186, 3)
	expectCommit(t, s, api.ErrFull)
	expectCommit(t, s, api.ErrFull, change(0, 6))
	expectLog(t, "full", s, 2, 186, 3)
}

func TestCommitOfMany(t *testing.T) {
	s := opened(t, formatted(t, 160, 64, 64))
	var l []api.Change
	for i := range 62 {
		l = append(l, change(i, i))
	}
	expectCommit(t, s, api.ErrFull, l...)
	expectCommit(t, s, api.OK, l[:61]...)
	expectLog(t, "the most", s, 2, 18+61*66, 1)
	s = opened(t, formatted(t, 4, 1, 1))
	for range 3 {
		expectCommit(t, s, api.ErrFull, change(0, 1))
		expectCommit(t, s, api.OK)
	}
	expectCommit(t, s, api.ErrFull)
	expectLog(t, "the least", s, 2, 54, 3)
}

func TestSync(t *testing.T) {
	d := formatted(t, 9, 3, 4)
	s := opened(t, d)
	expectCommit(t, s, api.OK, change(2, 1))
	s.Sync()
	expectDisk(t, "synced", d, d.Seen(), d.Image())
	expectLog(t, "synced", s, 2, 84, 1)
	if d.Crash(); len(d.Waits()) > 0 {
		t.Error("something waits")
	}
	expectPages(t, "behind a crash", opened(t, d), page0, page0, page(1), page0)
}

func TestCheckpoint(t *testing.T) {
	d := formatted(t, 9, 3, 4)
	s := opened(t, d)
	expectCommit(t, s, api.OK, change(2, 1))
	expectCommit(t, s, api.OK, change(0, 3))
	log := slices.Concat(record(2, 0, change(2, 1)), record(2, 1, change(0, 3)))
	if e := s.Checkpoint(); e != api.OK {
		t.Errorf("Checkpoint: %d", e)
	}
	want := image(9, joined(map[int][]byte{0: of(3, 4, 2), 1: of(3, 4, 3), 5: page(3), 7: page(1)}, log))
	expectDisk(t, "checkpointed", d, want, want)
	expectLog(t, "checkpointed", s, 3, 0, 0)
	expectPages(t, "checkpointed", s, page(3), page0, page(1), page0)
	expectCommit(t, s, api.OK, change(1, 9))
	copy(log, record(3, 0, change(1, 9)))
	s.Sync()
	want = image(9, joined(map[int][]byte{0: of(3, 4, 2), 1: of(3, 4, 3), 5: page(3), 7: page(1)}, log))
	expectDisk(t, "the log anew", d, want, want)
	if e := s.Checkpoint(); e != api.OK {
		t.Errorf("Checkpoint: %d", e)
	}
	want = image(9, joined(map[int][]byte{0: of(3, 4, 4), 1: of(3, 4, 3), 5: page(3), 6: page(9), 7: page(1)}, log))
	expectDisk(t, "twice", d, want, want)
}

func TestCheckpointPutsWhatTheLogNamedAlone(t *testing.T) {
	d := formatted(t, 9, 3, 4)
	s := opened(t, d)
	expectCommit(t, s, api.OK, change(2, 1))
	s.Checkpoint()
	// What another hand wrote to a page's place shows that it is not put once more.
	d.Write(7, page(77))
	d.Write(5, page(55))
	d.Flush()
	expectCommit(t, s, api.OK, change(0, 5))
	s.Checkpoint()
	want := d.Image()[5*api.Sector:]
	if !bytes.Equal(want, slices.Concat(page(5), page0, page(77), page0)) {
		t.Errorf("home is %v", want)
	}
	d.Write(5, page(66))
	s.Checkpoint()
	if got := d.Image()[5*api.Sector:][:api.Sector]; !bytes.Equal(got, page(66)) {
		t.Errorf("nothing was named: %v", got)
	}
}

// R2

func TestNothingHandedInIsKeptOrChanged(t *testing.T) {
	s := opened(t, formatted(t, 20, 10, 3))
	b := append(page(5), 77)
	l := []api.Change{{Page: 1, B: b[:api.Sector]}, {Page: 2, B: b[:api.Sector]}, change(0, 99)}
	expectCommit(t, s, api.OK, l[:2]...)
	if !bytes.Equal(b, append(page(5), 77)) || !delta.Same(l, []api.Change{change(1, 5), change(2, 5), change(0, 99)}) {
		t.Error("an argument is changed")
	}
	b[3] = 200
	expectPages(t, "kept", s, page0, page(5), page(5))
	for _, b := range s.All() {
		spoil(b)
	}
	spoil(s.Page(1))
	all := s.All()
	all[1] = nil
	expectPages(t, "spoilt", s, page0, page(5), page(5))
	s.Checkpoint()
	expectPages(t, "checkpointed", s, page0, page(5), page(5))
	got := s.All()
	spoil(got[0])
	if !bytes.Equal(got[1], page(5)) || !bytes.Equal(got[2], page(5)) {
		t.Error("pages share memory")
	}
}

// spoil writes over b and the room behind it.
func spoil(b []byte) {
	b = b[:cap(b)]
	for i := range b {
		b[i] = 99
	}
}

// P18.4

// steps is a row of numbers that is the same in every run.
type steps uint64

func (s *steps) below(n int) int {
	*s = *s*6364136223846793005 + 1442695040888963407
	return int(*s >> 33 % steps(n))
}

// history is what a disk's pages were behind each Commit, and how many of those are sure.
type history struct {
	states [][]byte
	sure   int
}

func (h *history) note(s *store.Store) {
	h.states = append(h.states, bytes.Join(s.All(), nil))
}

// crash holds what the next Open finds against the history, which goes on from there.
func (h *history) crash(t *testing.T, d *disk.Disk, kept bool) *store.Store {
	t.Helper()
	s := opened(t, d)
	now := bytes.Join(s.All(), nil)
	last := -1
	for i, b := range h.states {
		if i >= h.sure && bytes.Equal(b, now) {
			last = i
		}
	}
	if last < 0 {
		t.Fatalf("behind a crash the pages are none that they were: %d states, %d sure", len(h.states), h.sure)
	}
	if kept && last != len(h.states)-1 {
		t.Fatalf("all was kept, but %d of %d states", last, len(h.states))
	}
	h.states, h.sure = h.states[:last+1], last
	return s
}

func TestWhatIsSureStays(t *testing.T) {
	for seed := range 300 {
		r := steps(seed)
		d := formatted(t, 20, 6+r.below(9), 1+r.below(4))
		s := opened(t, d)
		h := &history{}
		h.note(s)
		for n := range 120 {
			switch r.below(12) {
			case 0:
				s.Sync()
				h.sure = len(h.states) - 1
			case 1:
				s.Checkpoint()
				h.sure = len(h.states) - 1
			case 2:
				cuts, kept := tearing(&r, len(d.Waits()))
				d.Crash(cuts...)
				s = h.crash(t, d, kept)
			default:
				var l []api.Change
				for p := range s.Root().Pages {
					if r.below(2) == 0 {
						// Each state is unlike all others: its number stands in it.
						b := page(r.below(256))
						b[r.below(2)], b[2], b[3] = byte(n), byte(n), byte(n>>8)
						l = append(l, api.Change{Page: p, B: b})
					}
				}
				if s.Commit(l...) == api.OK {
					h.note(s)
				}
			}
		}
	}
}

// tearing is cuts for so many sectors that wait, and whether they keep all.
func tearing(r *steps, waits int) ([]int, bool) {
	switch r.below(4) {
	case 0:
		return nil, false
	case 1:
		return slices.Repeat([]int{api.Sector}, waits), true
	}
	var cuts []int
	for range waits {
		cuts = append(cuts, []int{0, api.Sector, r.below(api.Sector + 1)}[r.below(3)])
	}
	return cuts, false
}

func TestEachCutOfOneCommit(t *testing.T) {
	for cut := range 3*api.Sector + 1 {
		d := formatted(t, 9, 3, 4)
		s := opened(t, d)
		expectCommit(t, s, api.OK, change(1, 8))
		s.Sync()
		expectCommit(t, s, api.OK, change(1, 9))
		if !slices.Equal(d.Waits(), []int{3, 4}) {
			t.Fatalf("Waits are %v", d.Waits())
		}
		d.Crash(min(cut, api.Sector), cut-api.Sector)
		want := page(8)
		// The second frame ends at byte 168 of the log, 104 behind the first sector.
		if cut >= 104 {
			want = page(9)
		}
		expectPages(t, "torn", opened(t, d), page0, want, page0, page0)
	}
}

func TestACrashBehindNoSyncLosesAllOfIt(t *testing.T) {
	d := formatted(t, 20, 10, 4)
	s := opened(t, d)
	expectCommit(t, s, api.OK, change(1, 8))
	s.Checkpoint()
	expectCommit(t, s, api.OK, change(1, 9), change(2, 9))
	s.Sync()
	expectCommit(t, s, api.OK, change(0, 7))
	d.Crash()
	expectPages(t, "lost", opened(t, d), page0, page(9), page(9), page0)
}
