package ack_test

import (
	"bytes"
	"math"
	"slices"
	"testing"

	"engram/ack"
	"engram/api"
	"engram/disk"
	"engram/host"
	"engram/root"
	"engram/store"
)

// program stores, loads, grows, traps behind a store, and asks. Its text goes into one page.
func program() api.Unit {
	return api.Unit{Pages: 0, Most: 5, Funcs: []api.Func{
		{Name: 's', Args: 2, Code: "ab$1"}, {Name: 'g', Args: 1, Code: "a¤"}, {Name: 'h', Args: 2, Code: "ab$¡"}, {Name: 'q', Args: 1, Code: "aπq"},
	}}
}

const pages = 7

// installed is a disk of so many sectors of log, with the program on it.
func installed(t *testing.T, log int) *disk.Disk {
	t.Helper()
	d := disk.New(2 + log + pages)
	if e := store.Format(d, log, pages); e != api.OK {
		t.Fatalf("Format: %d", e)
	}
	if e := host.Install(d, program()); e != api.OK {
		t.Fatalf("Install: %d", e)
	}
	return d
}

func opened(t *testing.T, d *disk.Disk) *host.Host {
	t.Helper()
	h, e := host.Open(d)
	if e != api.OK {
		t.Fatalf("Open: %d", e)
	}
	return h
}

// grown is an Ack of a program whose memory has one page; that call is not its own.
func grown(t *testing.T, d *disk.Disk, every int) *ack.Ack {
	t.Helper()
	h := opened(t, d)
	if got, e := h.Call('g', 9, nil, 1); e != api.OK || got.Value != 0 {
		t.Fatalf("Call: %v, refusal %d", got, e)
	}
	h.Store().Checkpoint()
	a := ack.New(h, every)
	if a == nil {
		t.Fatal("no Ack")
	}
	expectAck(t, "new", a, 0, 0)
	return a
}

func expectAck(t *testing.T, what string, a *ack.Ack, sure, waits int) {
	t.Helper()
	if a.Sure() != sure || a.Waits() != waits {
		t.Errorf("%s: Sure %d, Waits %d, not %d, %d", what, a.Sure(), a.Waits(), sure, waits)
	}
}

func sameResult(a, b api.Result) bool {
	return a.Value == b.Value && a.Trap == b.Trap && a.Fuel == b.Fuel && slices.Equal(a.Asks, b.Asks)
}

// expectCall makes a call with 10 of fuel.
func expectCall(t *testing.T, a *ack.Ack, want api.Result, committed int, why api.Errno, name rune, args ...int64) {
	t.Helper()
	got, n, e := a.Call(name, 10, args...)
	if e != why || n != committed || !sameResult(got, want) {
		t.Errorf("Call of %c%v: %v, %d, refusal %d, not %v, %d, %d", name, args, got, n, e, want, committed, why)
	}
}

// put makes a call that turns something.
func put(t *testing.T, a *ack.Ack, n int64, committed int) {
	t.Helper()
	expectCall(t, a, api.Result{Value: 1, Fuel: 6}, committed, api.OK, 's', 8, n)
}

// P22.1: New

func TestNew(t *testing.T) {
	h := opened(t, installed(t, 9))
	for _, every := range []int{-1, math.MinInt} {
		if ack.New(h, every) != nil || ack.New(nil, every) != nil {
			t.Errorf("New of every %d", every)
		}
	}
	for _, every := range []int{0, 1, 5, math.MaxInt} {
		if ack.New(nil, every) != nil {
			t.Errorf("New of no host")
		}
		a := ack.New(h, every)
		if a == nil {
			t.Fatalf("no Ack of every %d", every)
		}
		expectAck(t, "new", a, 0, 0)
	}
}

// P22.1: Call

func TestCallCounts(t *testing.T) {
	d := installed(t, 30)
	a := grown(t, d, 0)
	put(t, a, 1, 1)
	put(t, a, 2, 2)
	expectAck(t, "two", a, 0, 2)
	put(t, a, 2, 2)
	expectCall(t, a, api.Result{Trap: api.Halt, Fuel: 6}, 2, api.OK, 'h', 8, 9)
	expectCall(t, a, api.Result{Trap: api.Bounds, Fuel: 7}, 2, api.OK, 's', 57, 9)
	expectCall(t, a, api.Result{Value: 1, Fuel: 8}, 2, api.OK, 'g', 0)
	expectCall(t, a, api.Result{Value: -1, Fuel: 8}, 2, api.OK, 'g', 5)
	expectCall(t, a, api.Result{Value: 0, Fuel: 8, Asks: []api.Ask{{Name: 'q', Value: 5}}}, 2, api.OK, 'q', 5)
	expectAck(t, "nothing", a, 0, 2)
	expectCall(t, a, api.Result{}, 0, api.ErrNone, 'z')
	expectCall(t, a, api.Result{}, 0, api.ErrArg, 's', 8)
	expectCall(t, a, api.Result{}, 0, api.ErrArg, 's', 8, 9, 10)
	if got, n, e := a.Call('s', -1, 8, 9); e != api.ErrArg || n != 0 || !sameResult(got, api.Result{}) {
		t.Errorf("fuel -1: %v, %d, refusal %d", got, n, e)
	}
	if got, n, e := a.Call('s', api.MaxFuel+1, 8, 9); e != api.ErrArg || n != 0 || !sameResult(got, api.Result{}) {
		t.Errorf("too much fuel: %v, %d, refusal %d", got, n, e)
	}
	expectAck(t, "refused", a, 0, 2)
	expectCall(t, a, api.Result{Value: 1, Fuel: 8}, 3, api.OK, 'g', 1)
	put(t, a, math.MinInt64, 4)
	expectAck(t, "four", a, 0, 4)
	if len(d.Waits()) == 0 {
		t.Error("an Ack of every 0 has synced")
	}
}

func TestAnAckCountsItsOwnCalls(t *testing.T) {
	h := opened(t, installed(t, 30))
	a, b := ack.New(h, 0), ack.New(h, 0)
	h.Call('g', 10, nil, 1)
	put(t, a, 1, 1)
	h.Call('s', 10, nil, 8, 2)
	put(t, b, 3, 1)
	put(t, a, 4, 2)
	expectAck(t, "a", a, 0, 2)
	expectAck(t, "b", b, 0, 1)
	if h.Calls() != 5 {
		t.Errorf("Calls are %d", h.Calls())
	}
}

func TestEvery(t *testing.T) {
	for every := range 6 {
		d := installed(t, 60)
		a := grown(t, d, every)
		sure := 0
		for n := 1; n < 20; n++ {
			put(t, a, int64(n), n)
			if every > 0 && n%every == 0 {
				sure = n
			}
			expectAck(t, "turned", a, sure, n-sure)
			if (len(d.Waits()) == 0) != (sure == n) {
				t.Errorf("every %d, call %d: %v waits", every, n, d.Waits())
			}
			// What turns nothing does not wait.
			put(t, a, int64(n), n)
			expectAck(t, "not turned", a, sure, n-sure)
		}
	}
}

func TestEveryCountsFromTheLastSync(t *testing.T) {
	a := grown(t, installed(t, 60), 3)
	put(t, a, 1, 1)
	a.Sync()
	put(t, a, 2, 2)
	put(t, a, 3, 3)
	expectAck(t, "two behind a Sync", a, 1, 2)
	put(t, a, 4, 4)
	expectAck(t, "three behind a Sync", a, 4, 0)
}

// P22.1: a log that is full

func TestAFullLogIsEmptied(t *testing.T) {
	d := installed(t, 3)
	a := grown(t, d, 0)
	put(t, a, 1, 1)
	put(t, a, 2, 2)
	expectAck(t, "full", a, 0, 2)
	h := d.Image()
	put(t, a, 2, 2)
	expectCall(t, a, api.Result{Trap: api.Halt, Fuel: 6}, 2, api.OK, 'h', 8, 9)
	expectCall(t, a, api.Result{}, 0, api.ErrArg, 's', 8)
	expectAck(t, "nothing to commit", a, 0, 2)
	if !bytes.Equal(d.Image(), h) {
		t.Error("a Checkpoint that nothing asked for")
	}
	put(t, a, 3, 3)
	expectAck(t, "emptied", a, 2, 1)
	put(t, a, 4, 4)
	expectAck(t, "emptied, and one more", a, 2, 2)
	put(t, a, 5, 5)
	expectAck(t, "emptied again", a, 4, 1)
	d.Crash()
	if n, _ := opened(t, d).Call('q', 10, nil, 0); n.Trap != api.Done {
		t.Errorf("behind a crash: %v", n)
	}
	if m := opened(t, d).Memory(); m[8] != 4 {
		t.Errorf("what is sure has not stayed: %v", m)
	}
}

func TestAFullLogAndEvery(t *testing.T) {
	a := grown(t, installed(t, 3), 4)
	for n, want := range [][2]int{{0, 1}, {0, 2}, {2, 1}, {2, 2}, {4, 1}} {
		put(t, a, int64(n+1), n+1)
		expectAck(t, "every 4", a, want[0], want[1])
	}
	a = grown(t, installed(t, 3), 1)
	for n := range 9 {
		put(t, a, int64(n+1), n+1)
		expectAck(t, "every 1", a, n+1, 0)
	}
}

func TestACallThatIsTooMuchForTheLog(t *testing.T) {
	d := installed(t, 3)
	h := opened(t, d)
	h.Call('g', 10, nil, 1)
	a := ack.New(h, 0)
	put(t, a, 1, 1)
	epoch := h.Store().Root().Epoch
	// Two pages more, and the page that says how many there are, are three changes: two go in.
	expectCall(t, a, api.Result{}, 0, api.ErrFull, 'g', 2)
	expectAck(t, "too much", a, 1, 0)
	if h.Store().Root().Epoch != epoch+1 || h.Store().Used() != 0 || len(h.Memory()) != 64 {
		t.Errorf("the store is at %v, %d bytes used, %d of memory", h.Store().Root(), h.Store().Used(), len(h.Memory()))
	}
	expectCall(t, a, api.Result{Value: 1, Fuel: 8}, 2, api.OK, 'g', 1)
	expectAck(t, "behind it", a, 1, 1)
}

// late is a host whose store has come to the last epoch.
func late(t *testing.T) (*disk.Disk, *host.Host) {
	t.Helper()
	d := installed(t, 3)
	opened(t, d).Call('g', 10, nil, 1)
	opened(t, d)
	d.Write(0, root.Bytes(api.Root{Log: 3, Pages: pages, Epoch: math.MaxUint32 - 1}))
	d.Write(1, make([]byte, api.Sector))
	return d, opened(t, d)
}

func TestACheckpointThatIsRefused(t *testing.T) {
	d, h := late(t)
	a := ack.New(h, 0)
	put(t, a, 1, 1)
	put(t, a, 2, 2)
	seen, waits := d.Seen(), d.Waits()
	expectCall(t, a, api.Result{}, 0, api.ErrFull, 's', 8, 3)
	if n, e := a.Checkpoint(); n != 0 || e != api.ErrFull {
		t.Errorf("Checkpoint: %d, refusal %d", n, e)
	}
	expectAck(t, "refused", a, 0, 2)
	if !bytes.Equal(d.Seen(), seen) || !slices.Equal(d.Waits(), waits) || h.Memory()[8] != 2 {
		t.Error("a refused call has turned something")
	}
	if n := a.Sync(); n != 2 || len(d.Waits()) > 0 {
		t.Errorf("Sync: %d", n)
	}
	expectAck(t, "synced", a, 2, 0)
}

// P22.1: Sync, Checkpoint

func TestSync(t *testing.T) {
	d := installed(t, 30)
	a := grown(t, d, 0)
	if n := a.Sync(); n != 0 {
		t.Errorf("Sync of nothing: %d", n)
	}
	for n := 1; n < 4; n++ {
		put(t, a, int64(n), n)
		if got := a.Sync(); got != n || len(d.Waits()) > 0 {
			t.Errorf("Sync: %d, waits %v", got, d.Waits())
		}
		expectAck(t, "synced", a, n, 0)
		if got := a.Sync(); got != n {
			t.Errorf("Sync twice: %d", got)
		}
	}
	put(t, a, 9, 4)
	d.Crash()
	if m := opened(t, d).Memory(); m[8] != 3 {
		t.Errorf("behind a crash: %v", m)
	}
}

func TestCheckpoint(t *testing.T) {
	d := installed(t, 30)
	h := opened(t, d)
	h.Call('g', 10, nil, 1)
	a := ack.New(h, 0)
	for n := 1; n < 4; n++ {
		put(t, a, int64(n), n)
		if got, e := a.Checkpoint(); got != n || e != api.OK || len(d.Waits()) > 0 || h.Store().Used() != 0 {
			t.Errorf("Checkpoint: %d, refusal %d, waits %v", got, e, d.Waits())
		}
		expectAck(t, "checkpointed", a, n, 0)
	}
	if got, e := a.Checkpoint(); got != 3 || e != api.OK {
		t.Errorf("Checkpoint of nothing: %d, refusal %d", got, e)
	}
}

func TestArgsAreNotKeptOrChanged(t *testing.T) {
	a := grown(t, installed(t, 30), 0)
	args := []int64{8, 5, 7}
	if _, _, e := a.Call('s', 10, args[:2]...); e != api.OK || !slices.Equal(args, []int64{8, 5, 7}) {
		t.Errorf("refusal %d, args %v", e, args)
	}
}

// What is sure stays, whatever a crash takes.
func TestWhatIsSureStays(t *testing.T) {
	r := uint64(1)
	below := func(n int) int {
		r = r*6364136223846793005 + 1442695040888963407
		return int(r >> 33 % uint64(n))
	}
	for range 100 {
		d := installed(t, 3+below(9))
		a := grown(t, d, below(5))
		kept := []byte{0} // the number behind each committed call
		for n := 1; n < 2+below(40); n++ {
			switch below(9) {
			case 0:
				a.Sync()
			case 1:
				a.Checkpoint()
			default:
				put(t, a, int64(n), len(kept))
				kept = append(kept, byte(n))
			}
		}
		if a.Sure()+a.Waits() != len(kept)-1 {
			t.Fatalf("Sure %d, Waits %d, not %d", a.Sure(), a.Waits(), len(kept)-1)
		}
		var cuts []int
		for range d.Waits() {
			cuts = append(cuts, below(api.Sector+1))
		}
		d.Crash(cuts...)
		if at := slices.Index(kept, opened(t, d).Memory()[8]); at < a.Sure() {
			t.Fatalf("behind a crash it is as behind call %d, but %d are sure", at, a.Sure())
		}
	}
}
