package host_test

import (
	"bytes"
	"math"
	"slices"
	"strings"
	"testing"

	"engram/api"
	"engram/delta"
	"engram/disk"
	"engram/host"
	"engram/plate"
	"engram/redo"
	"engram/root"
	"engram/shade"
	"engram/store"
	"engram/unit"
)

// program has calls that store, load, grow, trap behind a store, and ask. Its text goes into two pages.
func program() api.Unit {
	return api.Unit{Pages: 2, Most: 5, Funcs: []api.Func{
		{Name: 's', Args: 2, Code: "ab$a@"}, {Name: 'l', Args: 1, Code: "a@"}, {Name: 'g', Args: 1, Code: "a¤"}, {Name: 'h', Args: 1, Code: "0a$¡"}, {Name: 'q', Args: 1, Code: "0aπq.B$b"},
		{Name: 'w', Args: 2, Code: "ab$1¤,57b$#"}, {Name: 'x', Args: 4, Code: "ab$cd$1"}, {Name: 'i', Code: "[]"},
	}}
}

const (
	first = 3 // the memory's first page
	pages = 12
)

// installed is a disk of so many sectors of log, with the program on it.
func installed(t *testing.T, log int) *disk.Disk {
	t.Helper()
	d := disk.New(2 + log + pages)
	if e := store.Format(d, log, pages); e != api.OK {
		t.Fatalf("Format: %d", e)
	}
	if e := host.Install(d, program()); e != api.OK {
		t.Fatalf("Install: %d", e)
	}
	return d
}

func opened(t *testing.T, d *disk.Disk) *host.Host {
	t.Helper()
	h, e := host.Open(d)
	if e != api.OK || h == nil {
		t.Fatalf("Open: %d", e)
	}
	return h
}

// expectHost holds all that h tells against what it should.
func expectHost(t *testing.T, what string, h *host.Host, memory []byte, calls, used int, seq uint32) {
	t.Helper()
	if !bytes.Equal(h.Memory(), memory) {
		t.Errorf("%s: Memory is %v, not %v", what, h.Memory(), memory)
	}
	if h.Calls() != calls || h.Store().Used() != used || h.Store().Seq() != seq {
		t.Errorf("%s: Calls %d, Used %d, Seq %d, not %d, %d, %d", what, h.Calls(), h.Store().Used(), h.Store().Seq(), calls, used, seq)
	}
	if !unit.Same(h.Unit(), program()) {
		t.Errorf("%s: Unit is %v", what, h.Unit())
	}
}

func sameResult(a, b api.Result) bool {
	return a.Value == b.Value && a.Trap == b.Trap && a.Fuel == b.Fuel && slices.Equal(a.Asks, b.Asks)
}

func expectCall(t *testing.T, h *host.Host, want api.Result, name rune, args ...any) {
	t.Helper()
	if got, e := h.Call(name, 1000, nil, args...); e != api.OK || !sameResult(got, want) {
		t.Errorf("Call of %c%v: %v, refusal %d, not %v", name, args, got, e, want)
	}
}

func expectRefused(t *testing.T, h *host.Host, want api.Errno, name rune, fuel int64, args ...any) {
	t.Helper()
	if got, e := h.Call(name, fuel, nil, args...); e != want || !sameResult(got, api.Result{}) {
		t.Errorf("Call of %c%v: %v, refusal %d, not %d", name, args, got, e, want)
	}
}

// with is so many pages of zeros but these numbers, each wide, by their addresses.
func with(n int, numbers map[int]byte) []byte {
	b := make([]byte, n*api.Sector)
	for at, x := range numbers {
		b[at] = x
	}
	return b
}

// P21.1: Install

func TestInstall(t *testing.T) {
	d := installed(t, 9)
	l, _ := plate.Put(program(), pages)
	if len(d.Waits()) > 0 {
		t.Errorf("Waits are %v", d.Waits())
	}
	want := make([]byte, d.Len()*api.Sector)
	copy(want, root.Bytes(api.Root{Log: 9, Pages: pages, Epoch: 2}))
	copy(want[api.Sector:], root.Bytes(api.Root{Log: 9, Pages: pages, Epoch: 3}))
	got := d.Image()
	copy(want[2*api.Sector:11*api.Sector], got[2*api.Sector:]) // the log is as the store left it
	for _, c := range l {
		copy(want[(11+c.Page)*api.Sector:], c.B)
	}
	if !bytes.Equal(got, want) {
		t.Errorf("the disk is %v, not %v", got, want)
	}
	h := opened(t, d)
	expectHost(t, "installed", h, make([]byte, 128), 0, 0, 0)
}

func TestInstallOverAnother(t *testing.T) {
	d := installed(t, 9)
	h := opened(t, d)
	expectCall(t, h, api.Result{Value: 7, Fuel: 995}, 's', 100, 7)
	if e := host.Install(d, program()); e != api.OK {
		t.Fatalf("Install: %d", e)
	}
	expectHost(t, "installed again", opened(t, d), make([]byte, 128), 0, 0, 0)
	small := api.Unit{Pages: 0, Most: 0}
	if e := host.Install(d, small); e != api.OK {
		t.Fatalf("Install: %d", e)
	}
	if h := opened(t, d); !unit.Same(h.Unit(), small) || len(h.Memory()) > 0 {
		t.Error("a smaller one")
	}
}

func TestInstallRefuses(t *testing.T) {
	form := func(log, pages int) *disk.Disk {
		d := disk.New(160)
		store.Format(d, log, pages)
		return d
	}
	last := disk.New(30)
	last.Write(1, root.Bytes(api.Root{Log: 9, Pages: pages, Epoch: math.MaxUint32}))
	lastButOne := disk.New(30)
	lastButOne.Write(0, root.Bytes(api.Root{Log: 9, Pages: pages, Epoch: math.MaxUint32 - 1}))
	bad := program()
	bad.Funcs[3].Code = "+"
	many := program()
	many.Most = 64
	long := program()
	for i := range 5 {
		long.Funcs = append(long.Funcs, api.Func{Name: rune(0x4e00 + i), Code: strings.Repeat("aA", 220) + "a"})
	}
	for _, c := range []struct {
		what string
		d    *disk.Disk
		u    api.Unit
		want api.Errno
	}{
		{"no disk", nil, program(), api.ErrArg}, {"no disk, no program", nil, bad, api.ErrArg}, {"zeros", disk.New(30), program(), api.ErrNone}, {"zeros, no program", disk.New(30), bad, api.ErrNone},
		{"the last epoch", last, program(), api.ErrFull}, {"the last epoch but one", lastButOne, program(), api.ErrFull},
		{"no program", form(9, pages), bad, api.ErrStack}, {"no program, too few pages", form(9, 1), bad, api.ErrStack}, {"too long a text", form(64, 64), long, api.ErrLong}, {"too great a memory", form(64, 64), many, api.ErrSize}, {"too few pages", form(9, 7), program(), api.ErrSize}, {"enough pages", form(9, 8), program(), api.OK},
		{"too short a log", form(5, pages), program(), api.ErrFull}, {"a log long enough", form(6, pages), program(), api.OK}, {"too short a log, too few pages", form(1, 7), program(), api.ErrSize},
	} {
		var want *disk.Disk
		if c.d != nil {
			want = disk.Of(c.d.Seen())
		}
		if e := host.Install(c.d, c.u); e != c.want {
			t.Errorf("%s: %d, not %d", c.what, e, c.want)
		}
		if c.d == nil || c.want == api.OK {
			continue
		}
		// Only the opening of the store may be seen.
		store.Open(want)
		if !bytes.Equal(c.d.Seen(), want.Seen()) {
			t.Errorf("%s: the disk is turned", c.what)
		}
	}
}

// P21.1: Open

func TestOpenRefuses(t *testing.T) {
	refuse := func(what string, d *disk.Disk, want api.Errno) {
		t.Helper()
		if h, e := host.Open(d); h != nil || e != want {
			t.Errorf("%s: %d, not %d", what, e, want)
		}
	}
	refuse("no disk", nil, api.ErrArg)
	refuse("zeros", disk.New(30), api.ErrNone)
	last := disk.New(30)
	last.Write(1, root.Bytes(api.Root{Log: 9, Pages: pages, Epoch: math.MaxUint32}))
	refuse("the last epoch", last, api.ErrFull)
	d := disk.New(30)
	store.Format(d, 9, pages)
	refuse("formatted", d, api.ErrForm)
	turned := func(c api.Change) *disk.Disk {
		d := installed(t, 9)
		s, _ := store.Open(d)
		s.Commit(c)
		return d
	}
	text, _ := unit.Text(program())
	refuse("no Meta", turned(api.Change{Page: 0, B: make([]byte, 64)}), api.ErrForm)
	refuse("no text", turned(api.Change{Page: 1, B: make([]byte, 64)}), api.ErrForm)
	refuse("too small a memory", turned(api.Change{Page: 0, B: shade.Meta(len(text), 1)}), api.ErrSize)
	refuse("too great a memory", turned(api.Change{Page: 0, B: shade.Meta(len(text), 6)}), api.ErrSize)
	if h := opened(t, turned(api.Change{Page: 0, B: shade.Meta(len(text), 5)})); len(h.Memory()) != 5*64 {
		t.Errorf("the memory is %d bytes", len(h.Memory()))
	}
}

func TestOpenFindsWhatWasCommitted(t *testing.T) {
	d := installed(t, 9)
	h := opened(t, d)
	expectCall(t, h, api.Result{Value: 7, Fuel: 995}, 's', 100, 7)
	expectCall(t, h, api.Result{Value: 2, Fuel: 998}, 'g', 1)
	expectCall(t, h, api.Result{Value: 9, Fuel: 995}, 's', 140, 9)
	want := with(3, map[int]byte{100: 7, 140: 9})
	expectHost(t, "called", h, want, 3, 84+150+84, 3)
	h = opened(t, d)
	expectHost(t, "opened again", h, want, 0, 0, 0)
	expectCall(t, h, api.Result{Value: 7, Fuel: 998}, 'l', 100)
	expectHost(t, "opened again", h, want, 0, 0, 0)
}

// P21.2

func TestCallTells(t *testing.T) {
	h := opened(t, installed(t, 20))
	expectCall(t, h, api.Result{Value: 0, Fuel: 998}, 'l', 8)
	expectCall(t, h, api.Result{Value: 5, Fuel: 995}, 's', 8, 5)
	expectCall(t, h, api.Result{Value: 5, Fuel: 998}, 'l', int64(8))
	expectCall(t, h, api.Result{Value: 3, Fuel: 995}, 's', "12345678", []any{1, nil, 2.5})
	expectCall(t, h, api.Result{Value: 1, Fuel: 995}, 's', '\b', true)
	expectCall(t, h, api.Result{Value: 0, Fuel: 995}, 's', 8, false)
	expectCall(t, h, api.Result{Value: -6, Fuel: 995}, 's', 8, int64(-6))
	expectCall(t, h, api.Result{Trap: api.Bounds, Fuel: 998}, 'l', 121)
	expectCall(t, h, api.Result{Trap: api.Fuel}, 'i')
	expectCall(t, h, api.Result{Trap: api.Halt, Fuel: 996}, 'h', 5)
	expectCall(t, h, api.Result{Value: 0, Fuel: 993, Asks: []api.Ask{{Name: 'q', Value: 4}}}, 'q', 4)
}

func TestCallAsksTheHost(t *testing.T) {
	h := opened(t, installed(t, 20))
	for _, c := range []struct {
		replies []any
		want    api.Result
	}{
		{[]any{7}, api.Result{Value: 7, Fuel: 993}}, {[]any{"abc", 9}, api.Result{Value: 3, Fuel: 993}}, {[]any{true}, api.Result{Value: 1, Fuel: 993}}, {[]any{}, api.Result{Value: 0, Fuel: 993}}, {[]any{nil}, api.Result{Trap: api.Refused, Fuel: 997}}, {[]any{1.5, 4}, api.Result{Trap: api.Refused, Fuel: 997}},
	} {
		c.want.Asks = []api.Ask{{Name: 'q', Value: 4}}
		got, e := h.Call('q', 1000, c.replies, 4)
		if e != api.OK || !sameResult(got, c.want) {
			t.Errorf("replies %v: %v, refusal %d, not %v", c.replies, got, e, c.want)
		}
	}
	if got, _ := h.Call('l', 1000, nil, 0); got.Value != 0 {
		t.Errorf("what was replied last: %d", got.Value)
	}
	// Each call has a Row of its own.
	h.Call('q', 1000, []any{5, 6}, 1)
	if got, _ := h.Call('q', 1000, []any{8}, 1); got.Value != 8 {
		t.Errorf("a Row of its own: %d", got.Value)
	}
}

func TestCallRefuses(t *testing.T) {
	d := installed(t, 20)
	h := opened(t, d)
	expectCall(t, h, api.Result{Value: 5, Fuel: 995}, 's', 8, 5)
	seen, waits := d.Seen(), d.Waits()
	for _, v := range []any{1.5, nil, uint(1), []int{1}, struct{}{}, int8(3)} {
		expectRefused(t, h, api.ErrType, 's', 1000, 8, v)
		expectRefused(t, h, api.ErrType, 's', 1000, v, 8)
		expectRefused(t, h, api.ErrType, 's', -1, v)
		expectRefused(t, h, api.ErrType, 'z', 1000, v)
	}
	expectRefused(t, h, api.ErrArg, 's', -1, 8, 9)
	expectRefused(t, h, api.ErrArg, 's', api.MaxFuel+1, 8, 9)
	expectRefused(t, h, api.ErrArg, 'z', math.MinInt64, 8, 9)
	expectRefused(t, h, api.ErrNone, 'z', 1000, 8, 9)
	expectRefused(t, h, api.ErrNone, 0, 1000)
	expectRefused(t, h, api.ErrArg, 's', 1000, 8)
	expectRefused(t, h, api.ErrArg, 's', 1000, 8, 9, 10)
	expectRefused(t, h, api.ErrArg, 's', 1000)
	if !bytes.Equal(d.Seen(), seen) || !slices.Equal(d.Waits(), waits) {
		t.Error("a refused call has turned the disk")
	}
	expectHost(t, "refused", h, with(2, map[int]byte{8: 5}), 1, 84, 1)
}

// logged tells the changes of the log's last record.
func logged(t *testing.T, d *disk.Disk, h *host.Host) []api.Change {
	t.Helper()
	l, long := redo.Records(d, h.Store().Root())
	if len(l) == 0 || long != h.Store().Used() {
		t.Fatalf("the log has %d records of %d bytes", len(l), long)
	}
	return l[len(l)-1]
}

func expectLogged(t *testing.T, what string, d *disk.Disk, h *host.Host, want ...api.Change) {
	t.Helper()
	if got := logged(t, d, h); !delta.Same(got, want) {
		t.Errorf("%s: logged are %v, not %v", what, got, want)
	}
}

func TestCallCommitsWhatItTurned(t *testing.T) {
	d := installed(t, 64)
	h := opened(t, d)
	text, _ := unit.Text(program())
	expectCall(t, h, api.Result{Value: 7, Fuel: 995}, 's', 8, 7)
	expectLogged(t, "the first page", d, h, api.Change{Page: first, B: with(1, map[int]byte{8: 7})})
	expectCall(t, h, api.Result{Value: 9, Fuel: 995}, 's', 120, 9)
	expectLogged(t, "the second page", d, h, api.Change{Page: first + 1, B: with(1, map[int]byte{56: 9})})
	expectCall(t, h, api.Result{Value: 1 << 32, Fuel: 995}, 's', 60, 1<<32)
	expectLogged(t, "one that is turned", d, h, api.Change{Page: first + 1, B: with(1, map[int]byte{0: 1, 56: 9})})
	expectCall(t, h, api.Result{Value: 1<<32 + 1, Fuel: 995}, 's', 60, 1<<32+1)
	expectLogged(t, "the other one", d, h, api.Change{Page: first, B: with(1, map[int]byte{8: 7, 60: 1})})
	expectHost(t, "four", h, with(2, map[int]byte{8: 7, 60: 1, 64: 1, 120: 9}), 4, 4*84, 4)
	expectCall(t, h, api.Result{Value: 1, Fuel: 993}, 'x', 0, 1, 100, 2)
	expectLogged(t, "both", d, h, api.Change{Page: first, B: with(1, map[int]byte{0: 1, 8: 7, 60: 1})}, api.Change{Page: first + 1, B: with(1, map[int]byte{0: 1, 36: 2, 56: 9})})
	expectCall(t, h, api.Result{Value: 2, Fuel: 998}, 'g', 1)
	expectLogged(t, "grown", d, h, api.Change{Page: 0, B: shade.Meta(len(text), 3)}, api.Change{Page: first + 2, B: with(1, nil)})
	expectCall(t, h, api.Result{Value: 4, Fuel: 990}, 'w', 24, 3)
	expectLogged(t, "grown, and stored", d, h, api.Change{Page: 0, B: shade.Meta(len(text), 4)}, api.Change{Page: first, B: with(1, map[int]byte{0: 1, 8: 7, 24: 3, 57: 3})}, api.Change{Page: first + 1, B: with(1, map[int]byte{36: 2, 56: 9})}, api.Change{Page: first + 3, B: with(1, nil)})
	memory := with(4, map[int]byte{0: 1, 8: 7, 24: 3, 57: 3, 100: 2, 120: 9})
	expectHost(t, "seven", h, memory, 7, 4*84+150+150+282, 7)
	expectHost(t, "opened again", opened(t, d), memory, 0, 0, 0)
}

func TestCallsThatTurnNothing(t *testing.T) {
	d := installed(t, 20)
	h := opened(t, d)
	expectCall(t, h, api.Result{Value: 5, Fuel: 995}, 's', 8, 5)
	want, seen, waits := with(2, map[int]byte{8: 5}), d.Seen(), d.Waits()
	expectCall(t, h, api.Result{Value: 5, Fuel: 998}, 'l', 8)
	expectCall(t, h, api.Result{Value: 5, Fuel: 995}, 's', 8, 5)
	expectCall(t, h, api.Result{Value: 2, Fuel: 998}, 'g', 0)
	expectCall(t, h, api.Result{Value: -1, Fuel: 998}, 'g', 4)
	expectCall(t, h, api.Result{Value: -1, Fuel: 998}, 'g', -1)
	expectCall(t, h, api.Result{Trap: api.Halt, Fuel: 996}, 'h', 9)
	expectCall(t, h, api.Result{Trap: api.Bounds, Fuel: 997}, 's', 121, 9)
	expectCall(t, h, api.Result{Trap: api.Bounds, Fuel: 994}, 'x', 0, 9, 121, 9)
	for fuel := range int64(3) {
		if got, e := h.Call('s', fuel, nil, 8, 9); e != api.OK || !sameResult(got, api.Result{Trap: api.Fuel}) {
			t.Errorf("fuel %d: %v, refusal %d", fuel, got, e)
		}
	}
	for fuel := int64(3); fuel < 5; fuel++ {
		if got, e := h.Call('s', fuel, nil, 8, 9); e != api.OK || !sameResult(got, api.Result{Trap: api.Fuel}) {
			t.Errorf("fuel %d, behind the store: %v, refusal %d", fuel, got, e)
		}
	}
	if got, e := h.Call('w', 9, nil, 8, 9); e != api.OK || got.Trap != api.Fuel {
		t.Errorf("fuel 9, behind the Grow: %v, refusal %d", got, e)
	}
	expectHost(t, "nothing", h, want, 1, 84, 1)
	if !bytes.Equal(d.Seen(), seen) || !slices.Equal(d.Waits(), waits) {
		t.Error("the disk is turned")
	}
}

func TestCallThatIsNotCommitted(t *testing.T) {
	d := installed(t, 6)
	h := opened(t, d)
	for i := range 4 {
		expectCall(t, h, api.Result{Value: int64(i + 1), Fuel: 995}, 's', 8, i+1)
	}
	// 48 bytes are left.
	want, seen := with(2, map[int]byte{8: 4}), d.Seen()
	expectRefused(t, h, api.ErrFull, 's', 1000, 8, 5)
	expectRefused(t, h, api.ErrFull, 'g', 1000, 1)
	if got, e := h.Call('q', 1000, []any{77}, 4); e != api.ErrFull || !sameResult(got, api.Result{}) {
		t.Errorf("a call that asks: %v, refusal %d", got, e)
	}
	expectHost(t, "full", h, want, 4, 336, 4)
	if !bytes.Equal(d.Seen(), seen) {
		t.Error("the disk is turned")
	}
	expectCall(t, h, api.Result{Value: 4, Fuel: 995}, 's', 8, 4)
	expectCall(t, h, api.Result{Value: 4, Fuel: 998}, 'l', 8)
	if e := h.Store().Checkpoint(); e != api.OK {
		t.Fatalf("Checkpoint: %d", e)
	}
	expectCall(t, h, api.Result{Value: 5, Fuel: 995}, 's', 8, 5)
	expectHost(t, "behind a Checkpoint", h, with(2, map[int]byte{8: 5}), 5, 84, 1)
}

// R2

func TestAnswersAreNew(t *testing.T) {
	h := opened(t, installed(t, 20))
	expectCall(t, h, api.Result{Value: 5, Fuel: 995}, 's', 8, 5)
	m := h.Memory()
	m = m[:cap(m)]
	for i := range m {
		m[i] = 99
	}
	u := h.Unit()
	u.Funcs[0] = api.Func{}
	u.Funcs = append(u.Funcs[:1], u.Funcs[:2]...)
	expectHost(t, "spoilt", h, with(2, map[int]byte{8: 5}), 1, 84, 1)
	if h.Store() != h.Store() || h.Store() == nil {
		t.Error("Store is not always the same")
	}
	expectCall(t, h, api.Result{Value: 5, Fuel: 998}, 'l', 8)
}

func TestNothingHandedInIsKeptOrChanged(t *testing.T) {
	u := program()
	d := disk.New(40)
	store.Format(d, 20, pages)
	host.Install(d, u)
	if !unit.Same(u, program()) {
		t.Error("the program is changed")
	}
	u.Funcs[0].Code = "7"
	h := opened(t, d)
	replies, args := []any{3, 4, 5}, []any{8, 6, 7}
	h.Call('q', 1000, replies[:1], args[:1]...)
	h.Call('s', 1000, nil, args[:2]...)
	if !slices.Equal(replies, []any{3, 4, 5}) || !slices.Equal(args, []any{8, 6, 7}) {
		t.Error("an argument is changed")
	}
	expectHost(t, "called", h, with(2, map[int]byte{0: 3, 8: 6}), 2, 168, 2)
}

// P21.3

// steps is a row of numbers that is the same in every run.
type steps uint64

func (s *steps) below(n int) int {
	*s = *s*6364136223846793005 + 1442695040888963407
	return int(*s >> 33 % steps(n))
}

// act makes one call, which may turn something, or trap, or be refused.
func act(r *steps, h *host.Host, n int) (api.Result, api.Errno) {
	switch r.below(7) {
	case 0:
		return h.Call('g', 1000, nil, r.below(3))
	case 1:
		return h.Call('x', int64(r.below(9)), nil, 8*r.below(24), n, 8*r.below(24), n)
	case 2:
		return h.Call('w', 1000, nil, r.below(300), n)
	case 3:
		return h.Call('q', 1000, []any{n, 1.5}[r.below(2):], n)
	case 4:
		return h.Call('h', 1000, nil, n)
	}
	return h.Call('s', 1000, nil, r.below(300)-20, n)
}

func TestTheMemoryIsWhatCallsMade(t *testing.T) {
	for seed := range 200 {
		r := steps(seed)
		d := installed(t, 6+r.below(20))
		h := opened(t, d)
		states, sure := [][]byte{h.Memory()}, 0
		for n := 1; n < 80; n++ {
			switch r.below(12) {
			case 0:
				h.Store().Sync()
				sure = len(states) - 1
			case 1:
				h.Store().Checkpoint()
				sure = len(states) - 1
			case 2:
				var cuts []int
				for range d.Waits() {
					cuts = append(cuts, []int{0, api.Sector, r.below(api.Sector + 1)}[r.below(3)])
				}
				d.Crash(cuts...)
				h = opened(t, d)
				last := len(states) - 1
				for last >= sure && !bytes.Equal(states[last], h.Memory()) {
					last--
				}
				if last < sure {
					t.Fatalf("row %d: behind a crash the memory is none that it was", seed)
				}
				states, sure = states[:last+1], last
			default:
				calls := h.Calls()
				result, e := act(&r, h, n)
				turned := !bytes.Equal(h.Memory(), states[len(states)-1])
				if turned != (h.Calls() == calls+1) || turned && (e != api.OK || result.Trap != api.Done) {
					t.Fatalf("row %d: %v, refusal %d, turned %v, Calls %d behind %d", seed, result, e, turned, h.Calls(), calls)
				}
				if turned {
					states = append(states, h.Memory())
				}
			}
		}
	}
}
