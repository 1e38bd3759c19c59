package tale_test

import (
	"bytes"
	"math"
	"slices"
	"testing"

	"engram/api"
	"engram/disk"
	"engram/host"
	"engram/root"
	"engram/store"
	"engram/tale"
)

// program stores, loads, grows, and traps behind a store.
func program() api.Unit {
	return api.Unit{Pages: 1, Most: 5, Funcs: []api.Func{
		{Name: 's', Args: 2, Code: "a.b$@"}, {Name: 'l', Args: 1, Code: "a@"}, {Name: 'g', Args: 1, Code: "a¤"}, {Name: 'h', Args: 2, Code: "ab$¡"},
	}}
}

const pages = 8

// installed is a disk of so many sectors of log, with the program on it.
func installed(t *testing.T, log int) *disk.Disk {
	t.Helper()
	d := disk.New(2 + log + pages)
	if e := store.Format(d, log, pages); e != api.OK {
		t.Fatalf("Format: %d", e)
	}
	if e := host.Install(d, program()); e != api.OK {
		t.Fatalf("Install: %d", e)
	}
	return d
}

func call(name rune, args ...int64) api.Act {
	return api.Act{Kind: api.Call, Name: name, Args: args}
}

func put(n int64) api.Act { return call('s', 8, n) }

func crash(cuts ...int) api.Act { return api.Act{Kind: api.Crash, Cuts: cuts} }

var (
	sync       = api.Act{Kind: api.Sync}
	checkpoint = api.Act{Kind: api.Checkpoint}
)

// memory is so many pages of zeros but these bytes.
func memory(n int, at map[int]byte) []byte {
	b := make([]byte, n*api.Sector)
	for i, x := range at {
		b[i] = x
	}
	return b
}

func expectRun(t *testing.T, what string, d *disk.Disk, l []api.Act, m []byte, want ...tale.Out) {
	t.Helper()
	outs, b, e := tale.Run(d, l, 100)
	if e != api.OK || !slices.Equal(outs, want) {
		t.Errorf("%s: Run tells %v, refusal %d, not %v", what, outs, e, want)
	}
	if !bytes.Equal(b, m) {
		t.Errorf("%s: the memory is %v, not %v", what, b, m)
	}
}

// P26.1: Run

func TestRunRefuses(t *testing.T) {
	refuse := func(what string, d *disk.Disk, want api.Errno) {
		t.Helper()
		for _, l := range [][]api.Act{nil, {put(5)}, {crash(), sync}, {{Kind: 9}}} {
			if outs, b, e := tale.Run(d, l, 100); len(outs) > 0 || len(b) > 0 || e != want {
				t.Errorf("%s: %v, %v, refusal %d, not %d", what, outs, b, e, want)
			}
		}
	}
	refuse("no disk", nil, api.ErrArg)
	refuse("zeros", disk.New(30), api.ErrNone)
	d := disk.New(30)
	store.Format(d, 9, pages)
	refuse("formatted", d, api.ErrForm)
	d = disk.New(30)
	d.Write(1, root.Bytes(api.Root{Log: 9, Pages: pages, Epoch: math.MaxUint32}))
	refuse("the last epoch", d, api.ErrFull)
}

func TestRunOfNoActs(t *testing.T) {
	expectRun(t, "nil", installed(t, 9), nil, memory(1, nil))
	d := installed(t, 9)
	expectRun(t, "a put", d, []api.Act{put(5)}, memory(1, map[int]byte{8: 5}), tale.Out{Value: 5, Calls: 1})
	expectRun(t, "none", d, []api.Act{}, memory(1, map[int]byte{8: 5}))
}

func TestCalls(t *testing.T) {
	expectRun(t, "calls", installed(t, 30), []api.Act{
		call('l', 8), put(5), call('l', 8), put(5), call('g', 1), call('s', 100, -1), call('h', 8, 9), call('l', 121), call('z'), call('s', 8), call('s', 8, 9, 10), call('g', 5), call('g', 0),
	}, memory(2, map[int]byte{8: 5, 100: 255, 101: 255, 102: 255, 103: 255, 104: 255, 105: 255, 106: 255, 107: 255}),
		tale.Out{}, tale.Out{Value: 5, Calls: 1}, tale.Out{Value: 5, Calls: 1}, tale.Out{Value: 5, Calls: 1}, tale.Out{Value: 1, Calls: 2}, tale.Out{Value: -1, Calls: 3}, tale.Out{Trap: api.Halt, Calls: 3}, tale.Out{Trap: api.Bounds, Calls: 3}, tale.Out{Why: api.ErrNone, Calls: 3}, tale.Out{Why: api.ErrArg, Calls: 3}, tale.Out{Why: api.ErrArg, Calls: 3}, tale.Out{Value: -1, Calls: 3}, tale.Out{Value: 2, Calls: 3})
}

func TestFuel(t *testing.T) {
	for fuel, want := range map[int64]tale.Out{0: {Trap: api.Fuel}, 4: {Trap: api.Fuel}, 5: {Value: 5, Calls: 1}, -1: {Why: api.ErrArg}, api.MaxFuel: {Value: 5, Calls: 1}, api.MaxFuel + 1: {Why: api.ErrArg}, math.MinInt64: {Why: api.ErrArg}} {
		// s has five tokens; each call has the fuel anew.
		outs, _, e := tale.Run(installed(t, 9), []api.Act{put(5), put(5)}, fuel)
		if e != api.OK || len(outs) != 2 || outs[0] != want || outs[1] != want {
			t.Errorf("fuel %d: %v, refusal %d, not %v", fuel, outs, e, want)
		}
	}
}

func TestSyncAndCheckpoint(t *testing.T) {
	d := installed(t, 30)
	expectRun(t, "sync", d, []api.Act{sync, put(1), put(2), sync, put(3), checkpoint, checkpoint, put(4)}, memory(1, map[int]byte{8: 4}),
		tale.Out{}, tale.Out{Value: 1, Calls: 1}, tale.Out{Value: 2, Calls: 2}, tale.Out{Sure: 2, Calls: 2}, tale.Out{Value: 3, Sure: 2, Calls: 3}, tale.Out{Sure: 3, Calls: 3}, tale.Out{Sure: 3, Calls: 3}, tale.Out{Value: 4, Sure: 3, Calls: 4})
	// The Ack's every is 0: what waits, waits.
	d.Crash()
	expectRun(t, "behind a crash", d, nil, memory(1, map[int]byte{8: 3}))
}

func TestCrashes(t *testing.T) {
	// Each record has 84 bytes: the first is whole by 64 and 20 of the log's two sectors, the second by 64, 64 and 40. Its byte 24 is the number.
	for _, c := range []struct {
		cuts []int
		want int64
	}{
		{nil, 7}, {[]int{64}, 7}, {[]int{64, 19}, 7}, {[]int{64, 20}, 8}, {[]int{64, 64}, 8}, {[]int{64, 64, 39}, 8}, {[]int{64, 64, 40}, 9}, {[]int{24, 64, 64}, 7}, {[]int{0, 64, 64}, 7}, {[]int{99, 99, 99, 99}, 9}, {[]int{-1, 64, 64}, 7}, {[]int{64, 0, 64}, 7},
	} {
		expectRun(t, "a crash", installed(t, 9), []api.Act{put(7), checkpoint, put(8), put(9), crash(c.cuts...), call('l', 8), put(6)}, memory(1, map[int]byte{8: 6}),
			tale.Out{Value: 7, Calls: 1}, tale.Out{Sure: 1, Calls: 1}, tale.Out{Value: 8, Sure: 1, Calls: 2}, tale.Out{Value: 9, Sure: 1, Calls: 3}, tale.Out{}, tale.Out{Value: c.want}, tale.Out{Value: 6, Calls: 1})
	}
}

func TestCrashesBehindASync(t *testing.T) {
	expectRun(t, "synced", installed(t, 9), []api.Act{put(7), sync, put(8), crash(), call('l', 8), crash(), crash(64), call('l', 8)}, memory(1, map[int]byte{8: 7}),
		tale.Out{Value: 7, Calls: 1}, tale.Out{Sure: 1, Calls: 1}, tale.Out{Value: 8, Sure: 1, Calls: 2}, tale.Out{}, tale.Out{Value: 7}, tale.Out{}, tale.Out{}, tale.Out{Value: 7})
}

func TestAFullLogIsEmptied(t *testing.T) {
	// Four records of 84 bytes go into 384.
	expectRun(t, "full", installed(t, 6), []api.Act{put(1), put(2), put(3), put(4), put(5), crash(), call('l', 8)}, memory(1, map[int]byte{8: 4}),
		tale.Out{Value: 1, Calls: 1}, tale.Out{Value: 2, Calls: 2}, tale.Out{Value: 3, Calls: 3}, tale.Out{Value: 4, Calls: 4}, tale.Out{Value: 5, Sure: 4, Calls: 5}, tale.Out{}, tale.Out{Value: 4})
}

func TestAnotherKind(t *testing.T) {
	for _, kind := range []int{0, 5, 9, -1, math.MaxInt, math.MinInt} {
		a := api.Act{Kind: kind, Name: 's', Args: []int64{8, 9}, Cuts: []int{64}}
		expectRun(t, "another kind", installed(t, 9), []api.Act{a, put(5), sync, a, put(6), a}, memory(1, map[int]byte{8: 6}),
			tale.Out{Why: api.ErrArg}, tale.Out{Value: 5, Calls: 1}, tale.Out{Sure: 1, Calls: 1}, tale.Out{Why: api.ErrArg, Sure: 1, Calls: 1}, tale.Out{Value: 6, Sure: 1, Calls: 2}, tale.Out{Why: api.ErrArg, Sure: 1, Calls: 2})
	}
}

func TestTheLongestTale(t *testing.T) {
	var l []api.Act
	for i := range int64(api.MaxTale + 5) {
		l = append(l, put(i%100+1))
	}
	for n, want := range map[int]int{api.MaxTale - 1: api.MaxTale - 1, api.MaxTale: api.MaxTale, api.MaxTale + 1: api.MaxTale, api.MaxTale + 5: api.MaxTale} {
		outs, b, e := tale.Run(installed(t, 9), l[:n], 100)
		if e != api.OK || len(outs) != want || outs[want-1].Calls != want || b[8] != byte((want-1)%100+1) {
			t.Errorf("%d acts: %d Outs, refusal %d, %v", n, len(outs), e, outs[len(outs)-1])
		}
	}
}

// late is a disk with the program, of an epoch so far from the last one.
func late(t *testing.T, left uint32) *disk.Disk {
	t.Helper()
	d := installed(t, 9)
	epoch := math.MaxUint32 - left
	d.Write(int(epoch%2), root.Bytes(api.Root{Log: 9, Pages: pages, Epoch: epoch}))
	d.Flush()
	return d
}

func TestACrashThatIsNotOpened(t *testing.T) {
	acts := []api.Act{put(5), checkpoint, crash(64, 64), put(6), checkpoint, crash(64, 64), put(7)}
	// The first Open comes to the last epoch.
	expectRun(t, "one left", late(t, 1), acts, nil, tale.Out{Value: 5, Calls: 1}, tale.Out{Why: api.ErrFull, Calls: 1}, tale.Out{Why: api.ErrFull})
	expectRun(t, "two left", late(t, 2), acts, nil, tale.Out{Value: 5, Calls: 1}, tale.Out{Sure: 1, Calls: 1}, tale.Out{Why: api.ErrFull})
	expectRun(t, "three left", late(t, 3), acts, nil, tale.Out{Value: 5, Calls: 1}, tale.Out{Sure: 1, Calls: 1}, tale.Out{}, tale.Out{Value: 6, Calls: 1}, tale.Out{Why: api.ErrFull, Calls: 1}, tale.Out{Why: api.ErrFull})
	expectRun(t, "four left", late(t, 4), acts, nil, tale.Out{Value: 5, Calls: 1}, tale.Out{Sure: 1, Calls: 1}, tale.Out{}, tale.Out{Value: 6, Calls: 1}, tale.Out{Sure: 1, Calls: 1}, tale.Out{Why: api.ErrFull})
	expectRun(t, "five left", late(t, 5), acts, memory(1, map[int]byte{8: 7}), tale.Out{Value: 5, Calls: 1}, tale.Out{Sure: 1, Calls: 1}, tale.Out{}, tale.Out{Value: 6, Calls: 1}, tale.Out{Sure: 1, Calls: 1}, tale.Out{}, tale.Out{Value: 7, Calls: 1})
}

func TestNothingHandedInIsKeptOrChanged(t *testing.T) {
	args, cuts := []int64{8, 5, 77}, []int{-4, 99, 77}
	l := []api.Act{{Kind: api.Call, Name: 's', Args: args[:2]}, {Kind: api.Crash, Cuts: cuts[:2]}, put(3), put(4)}
	expectRun(t, "some", installed(t, 9), l[:3], memory(1, map[int]byte{8: 3}), tale.Out{Value: 5, Calls: 1}, tale.Out{}, tale.Out{Value: 3, Calls: 1})
	if !slices.Equal(args, []int64{8, 5, 77}) || !slices.Equal(cuts, []int{-4, 99, 77}) || l[3].Args[1] != 4 {
		t.Error("an argument is changed")
	}
}

// P26.1: Lives

func TestLives(t *testing.T) {
	for _, c := range []struct{ calls, want []int }{
		{nil, nil}, {[]int{0}, []int{1}}, {[]int{5}, []int{1}}, {[]int{0, 0, 0}, []int{3}}, {[]int{0, 1, 2, 2, 3}, []int{5}}, {[]int{1, 2, 0, 0, 1}, []int{2, 3}}, {[]int{3, 2, 1, 0}, []int{1, 1, 1, 1}}, {[]int{1, 0, 1, 0, 1}, []int{1, 2, 2}}, {[]int{0, 0, 1, 1, 0}, []int{4, 1}}, {[]int{-1, -2, math.MaxInt, math.MinInt}, []int{1, 2, 1}},
	} {
		var l []tale.Out
		for _, n := range c.calls {
			// Nothing else than Calls is asked.
			l = append(l, tale.Out{Calls: n, Sure: -n, Value: int64(-n), Why: api.ErrFull})
		}
		if got := tale.Lives(l); !slices.Equal(got, c.want) {
			t.Errorf("Lives of %v: %v, not %v", c.calls, got, c.want)
		}
		if l != nil && len(tale.Lives(l[:0:len(l)])) > 0 {
			t.Error("Lives reads the room behind")
		}
	}
}

func TestLivesOfATale(t *testing.T) {
	outs, _, _ := tale.Run(installed(t, 9), []api.Act{put(1), sync, crash(), put(2), put(3), crash(), crash(), put(4)}, 100)
	if got := tale.Lives(outs); !slices.Equal(got, []int{2, 3, 3}) {
		t.Errorf("Lives are %v", got)
	}
}
