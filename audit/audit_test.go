package audit_test

import (
	"bytes"
	"math"
	"slices"
	"strings"
	"testing"

	"engram/api"
	"engram/audit"
	"engram/check"
	"engram/delta"
	"engram/disk"
	"engram/frame"
	"engram/glyph"
	"engram/host"
	"engram/model"
	"engram/nest"
	"engram/plate"
	"engram/root"
	"engram/store"
	"engram/tale"
)

// program stores and grows.
func program() api.Unit {
	return api.Unit{Pages: 1, Most: 3, Funcs: []api.Func{{Name: 's', Args: 2, Code: "ab$1"}, {Name: 'g', Args: 1, Code: "a¤"}}}
}

const pages = 5

// installed is a disk of so many sectors of log, with the program on it.
func installed(t *testing.T, log int) *disk.Disk {
	t.Helper()
	d := disk.New(2 + log + pages)
	if e := store.Format(d, log, pages); e != api.OK {
		t.Fatalf("Format: %d", e)
	}
	if e := host.Install(d, program()); e != api.OK {
		t.Fatalf("Install: %d", e)
	}
	return d
}

func opened(t *testing.T, d *disk.Disk) *store.Store {
	t.Helper()
	s, e := store.Open(d)
	if e != api.OK {
		t.Fatalf("Open: %d", e)
	}
	return s
}

func expectDisk(t *testing.T, what string, b []byte, want api.Errno) {
	t.Helper()
	before := slices.Clone(b)
	if got := audit.Disk(b); got != want {
		t.Errorf("%s: Disk is %d, not %d", what, got, want)
	}
	if !bytes.Equal(b, before) {
		t.Errorf("%s: what is handed in is turned", what)
	}
	// The opening of a host says so too, but for what it does not open.
	if d := disk.Of(b); d != nil {
		if _, e := host.Open(d); e != api.ErrFull && (e == api.OK) != (want == api.OK) {
			t.Errorf("%s: a host is opened by %d", what, e)
		}
	}
}

// P28.1: Disk

func TestDiskOfNoDisk(t *testing.T) {
	for _, n := range []int{0, 1, 63, 65, 64*160 - 1, 64*160 + 1, 64 * 161} {
		expectDisk(t, "no disk", make([]byte, n), api.ErrSize)
	}
	expectDisk(t, "nil", nil, api.ErrSize)
	whole := installed(t, 9).Image()
	expectDisk(t, "cut", whole[:len(whole)-1], api.ErrSize)
	expectDisk(t, "longer", append(slices.Clone(whole), 0), api.ErrSize)
}

func TestDiskWithoutARoot(t *testing.T) {
	for _, n := range []int{1, 2, 30, 160} {
		expectDisk(t, "zeros", make([]byte, n*64), api.ErrNone)
	}
	whole := installed(t, 9).Image()
	expectDisk(t, "a sector less", whole[:len(whole)-64], api.ErrNone)
	b := slices.Clone(whole)
	b[0] ^= 1
	expectDisk(t, "an elder root", b, api.OK)
	b[64] ^= 1
	expectDisk(t, "two broken roots", b, api.ErrNone)
}

func TestDisk(t *testing.T) {
	d := installed(t, 9)
	expectDisk(t, "installed", d.Image(), api.OK)
	expectDisk(t, "a sector more", append(d.Image(), make([]byte, 64)...), api.OK)
	formatted := disk.New(16)
	store.Format(formatted, 9, pages)
	expectDisk(t, "formatted", formatted.Image(), api.ErrForm)
	h, _ := host.Open(d)
	h.Call('s', 9, nil, 8, 5)
	h.Call('g', 9, nil, 2)
	expectDisk(t, "waiting", d.Image(), api.OK)
	expectDisk(t, "called", d.Seen(), api.OK)
}

func TestDiskAsksThePagesOfTheLog(t *testing.T) {
	d := installed(t, 9)
	s := opened(t, d)
	meta := s.Page(0)
	s.Commit(api.Change{Page: 0, B: make([]byte, 64)})
	expectDisk(t, "a log that waits", d.Image(), api.OK)
	expectDisk(t, "a log that turns the Meta", d.Seen(), api.ErrForm)
	s.Commit(api.Change{Page: 0, B: meta})
	expectDisk(t, "a log that turns it back", d.Seen(), api.OK)
	s.Commit(api.Change{Page: 1, B: make([]byte, 64)})
	expectDisk(t, "a log that turns the text", d.Seen(), api.ErrForm)
	opened(t, d)
	expectDisk(t, "brought home", d.Image(), api.ErrForm)
	// What plate.Get refuses by another number is ErrForm too.
	d = installed(t, 9)
	s = opened(t, d)
	meta[11] = 4
	s.Commit(api.Change{Page: 0, B: meta})
	if _, _, _, e := plate.Get(s.All()); e != api.ErrSize {
		t.Fatalf("Get: %d", e)
	}
	expectDisk(t, "too great a memory", d.Seen(), api.ErrForm)
}

func TestDiskOfTheLastEpoch(t *testing.T) {
	d := installed(t, 9)
	d.Write(1, root.Bytes(api.Root{Log: 9, Pages: pages, Epoch: math.MaxUint32}))
	expectDisk(t, "the last epoch", d.Seen(), api.OK)
	d = disk.New(16)
	d.Write(1, root.Bytes(api.Root{Log: 9, Pages: pages, Epoch: math.MaxUint32}))
	expectDisk(t, "the last epoch, no program", d.Seen(), api.ErrForm)
}

// P28.1: Log

func expectLog(t *testing.T, what string, d *disk.Disk, records, long int) {
	t.Helper()
	if n, b := audit.Log(d); n != records || b != long {
		t.Errorf("%s: Log is %d, %d, not %d, %d", what, n, b, records, long)
	}
}

func TestLog(t *testing.T) {
	expectLog(t, "no disk", nil, 0, 0)
	expectLog(t, "zeros", disk.New(30), 0, 0)
	expectLog(t, "one sector", disk.New(1), 0, 0)
	d := installed(t, 9)
	expectLog(t, "installed", d, 0, 0)
	s := opened(t, d)
	records, long := 0, 0
	for _, l := range [][]api.Change{{{Page: 2, B: make([]byte, 64)}}, nil, {{Page: 0, B: make([]byte, 64)}, {Page: 4, B: make([]byte, 64)}}, nil, nil} {
		if e := s.Commit(l...); e != api.OK {
			t.Fatalf("Commit: %d", e)
		}
		records, long = records+1, long+18+66*len(l)
		expectLog(t, "committed", d, records, long)
	}
	if long != s.Used() || records != int(s.Seq()) {
		t.Errorf("Used %d, Seq %d", s.Used(), s.Seq())
	}
	seen := d.Seen()
	expectLog(t, "of a copy", disk.Of(d.Image()), 0, 0)
	expectLog(t, "of what is seen", disk.Of(seen), records, long)
	if !bytes.Equal(d.Seen(), seen) || len(d.Waits()) == 0 {
		t.Error("Log turns the disk")
	}
	s.Checkpoint()
	expectLog(t, "checkpointed", d, 0, 0)
}

func TestLogOfWhatIsNoChanges(t *testing.T) {
	d := installed(t, 9)
	s := opened(t, d)
	s.Commit(api.Change{Page: 2, B: make([]byte, 64)})
	b := frame.Bytes(s.Root().Epoch, 1, delta.Bytes([]api.Change{{Page: pages, B: make([]byte, 64)}}))
	log := slices.Concat(d.Seen()[2*64:][:84], b, make([]byte, 24))
	for i := range len(log) / 64 {
		d.Write(2+i, log[i*64:][:64])
	}
	expectLog(t, "a page too far", d, 1, 84)
}

// P28.1: Bound

func TestBound(t *testing.T) {
	for _, c := range []struct {
		r    api.Root
		want int
	}{
		{api.Root{}, 0}, {api.Root{Log: 1, Pages: 5}, 0}, {api.Root{Log: 2, Pages: 5}, 1}, {api.Root{Log: 3, Pages: 5}, 2}, {api.Root{Log: 3, Pages: 1}, 1}, {api.Root{Log: 64, Pages: 64}, 61}, {api.Root{Log: 64, Pages: 60}, 60},
		{api.Root{Log: 0, Pages: 5}, 0}, {api.Root{Log: 65, Pages: 5}, 0}, {api.Root{Log: -1, Pages: 5}, 0}, {api.Root{Log: 9, Pages: -1}, 0}, {api.Root{Log: 9}, 0}, {api.Root{Log: math.MaxInt, Pages: math.MaxInt}, 0}, {api.Root{Log: 64, Pages: math.MaxInt}, 61}, {api.Root{Log: math.MinInt, Pages: math.MinInt}, 0},
	} {
		if got := audit.Bound(c.r); got != c.want {
			t.Errorf("Bound of %v: %d, not %d", c.r, got, c.want)
		}
	}
}

func TestACommitTakesTheBound(t *testing.T) {
	for log := 1; log <= 64; log += 3 {
		for _, n := range []int{1, 5, 64} {
			d := disk.New(2 + log + n)
			store.Format(d, log, n)
			s := opened(t, d)
			var l []api.Change
			for i := range n {
				l = append(l, api.Change{Page: i, B: make([]byte, 64)})
			}
			bound := audit.Bound(s.Root())
			if e := s.Commit(l[:bound]...); e != api.OK {
				t.Errorf("log %d, %d pages: %d changes are refused by %d", log, n, bound, e)
			}
			s.Checkpoint()
			if bound < n && s.Commit(l[:bound+1]...) != api.ErrFull {
				t.Errorf("log %d, %d pages: %d changes are taken", log, n, bound+1)
			}
		}
	}
}

// P28.1: Verdict

func TestVerdict(t *testing.T) {
	for _, c := range []struct {
		s    string
		want int
		why  api.Errno
	}{
		{"1", 3, api.OK}, {"1 2+", 3, api.OK}, {"[]", 3, api.OK}, {"¡", 3, api.OK}, {"z?1:2;", 3, api.OK}, {"λa", 3, api.OK}, {"1πq", 3, api.OK}, {"#@", 3, api.OK}, {"1 0/", 3, api.OK}, {strings.Repeat("aA", 255) + "1", 3, api.OK},
		{strings.Repeat("aA", 256) + "1", 0, api.ErrLong}, {strings.Repeat("?", 513), 0, api.ErrLong}, {"é", 0, api.ErrForm}, {"λ", 0, api.ErrForm}, {"\xff", 0, api.ErrForm}, {"1\n", 0, api.ErrForm}, {"9223372036854775808", 0, api.ErrForm}, {"?é", 0, api.ErrForm}, {"+é", 0, api.ErrForm},
		{"?", 1, api.ErrNest}, {"~", 1, api.ErrNest}, {"]+", 1, api.ErrNest}, {"+:", 1, api.ErrNest}, {strings.Repeat("[", 17) + strings.Repeat("]", 17), 1, api.ErrNest},
		{"", 2, api.ErrStack}, {"+", 2, api.ErrStack}, {"1 2", 2, api.ErrStack}, {"¡1", 2, api.ErrDead}, {"λb", 2, api.ErrNone}, {"1λa", 2, api.ErrStack}, {"1?2;", 2, api.ErrStack}, {"λbλ世+", 2, api.ErrNone}, {" ", 2, api.ErrStack},
	} {
		if got, e := audit.Verdict(c.s); got != c.want || e != c.why {
			t.Errorf("Verdict of %q: %d, %d, not %d, %d", c.s, got, e, c.want, c.why)
		}
	}
}

func TestVerdictOfShortCodes(t *testing.T) {
	signs := []string{"1", "a", "A", "+", "!", ".", ",", "$", "?", ":", ";", "[", "]", "~", "¡", "λa", "λb", "λ", "πq", "#", "é", " "}
	judge := func(s string) (int, api.Errno) {
		tokens, e := glyph.Tokens(s)
		if e != api.OK {
			return 0, e
		}
		if _, e := nest.Of(tokens); e != api.OK {
			return 1, e
		}
		if _, e := check.Func(api.Unit{Funcs: []api.Func{{Name: 'a', Code: s}}}, 0); e != api.OK {
			return 2, e
		}
		return 3, api.OK
	}
	for _, a := range signs {
		for _, b := range signs {
			for _, c := range signs {
				for _, d := range signs {
					s := a + b + c + d
					want, why := judge(s)
					if got, e := audit.Verdict(s); got != want || e != why {
						t.Fatalf("Verdict of %q: %d, %d, not %d, %d", s, got, e, want, why)
					}
				}
			}
		}
	}
}

// What must hold of the whole

// steps is a row of numbers that is the same in every run.
type steps uint64

func (s *steps) below(n int) int {
	*s = *s*6364136223846793005 + 1442695040888963407
	return int(*s >> 33 % steps(n))
}

// script is acts of one life, with a crash at its end, and its calls.
func script(r *steps) ([]api.Act, []model.Step) {
	var l []api.Act
	var calls []model.Step
	for range r.below(30) {
		a := api.Act{Kind: api.Call, Name: 's', Args: []int64{int64(r.below(200) - 9), int64(r.below(1 << 30))}}
		switch r.below(9) {
		case 0:
			a = api.Act{Kind: api.Sync}
		case 1:
			a = api.Act{Kind: api.Checkpoint}
		case 2:
			a = api.Act{Kind: api.Call, Name: 'g', Args: []int64{int64(r.below(3))}}
		}
		l = append(l, a)
		if a.Kind == api.Call {
			calls = append(calls, model.Step{Name: a.Name, Args: a.Args})
		}
	}
	crash := api.Act{Kind: api.Crash}
	for range 12 {
		crash.Cuts = append(crash.Cuts, []int{0, api.Sector, r.below(api.Sector + 1)}[r.below(3)])
	}
	return append(l, crash), calls
}

func TestWhatIsSureStaysAndAllOrNothing(t *testing.T) {
	for seed := range 200 {
		r := steps(seed)
		d := installed(t, 6+r.below(6))
		l, calls := script(&r)
		outs, memory, e := tale.Run(d, l, 20)
		if e != api.OK || len(outs) != len(l) {
			t.Fatalf("row %d: %d Outs, refusal %d", seed, len(outs), e)
		}
		sure := 0
		if len(outs) > 1 {
			sure = outs[len(outs)-2].Sure
		}
		at := model.Which(program(), calls, 20, memory)
		if at < 0 {
			t.Fatalf("row %d: the memory is none that the model had", seed)
		}
		if _, turned, _ := model.Fold(program(), calls[:at], 20); turned < sure {
			t.Fatalf("row %d: %d calls lasted, but %d were sure", seed, turned, sure)
		}
		expectDisk(t, "behind a crash", d.Image(), api.OK)
	}
}
