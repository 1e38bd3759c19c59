package kv_test

import (
	"bytes"
	"maps"
	"math"
	"slices"
	"testing"

	"engram/api"
	"engram/disk"
	"engram/host"
	"engram/kv"
	"engram/plate"
	"engram/root"
	"engram/store"
	"engram/table"
	"engram/unit"
)

const pages = 31

func made(t *testing.T, log int) (*disk.Disk, *kv.Map) {
	t.Helper()
	d := disk.New(2 + log + pages)
	m, e := kv.New(d, log)
	if e != api.OK || m == nil {
		t.Fatalf("New: %d", e)
	}
	return d, m
}

func opened(t *testing.T, d *disk.Disk) *kv.Map {
	t.Helper()
	m, e := kv.Open(d)
	if e != api.OK || m == nil {
		t.Fatalf("Open: %d", e)
	}
	return m
}

func put(t *testing.T, m *kv.Map, k, v any, want api.Errno) {
	t.Helper()
	if e := m.Put(k, v); e != want {
		t.Fatalf("Put(%v, %v): %d, not %d", k, v, e, want)
	}
}

func del(t *testing.T, m *kv.Map, k any, want bool, why api.Errno) {
	t.Helper()
	if was, e := m.Del(k); was != want || e != why {
		t.Fatalf("Del(%v): %v, refusal %d, not %v, %d", k, was, e, want, why)
	}
}

func get(t *testing.T, m *kv.Map, k any, want int64, there bool, why api.Errno) {
	t.Helper()
	if n, ok, e := m.Get(k); n != want || ok != there || e != why {
		t.Errorf("Get(%v): %d, %v, refusal %d, not %d, %v, %d", k, n, ok, e, want, there, why)
	}
}

// expectMap holds all that m tells against a plain table.
func expectMap(t *testing.T, m *kv.Map, want map[int64]int64) {
	t.Helper()
	if m.Count() != len(want) {
		t.Errorf("Count is %d, not %d", m.Count(), len(want))
	}
	keys := slices.Sorted(maps.Keys(want))
	for i, k := range keys {
		get(t, m, k, want[k], true, api.OK)
		above, more := int64(0), i+1 < len(keys)
		if more {
			above = keys[i+1]
		}
		expectNext(t, m, k, above, more)
		if _, beside := want[k-1]; !beside {
			get(t, m, k-1, 0, false, api.OK)
		}
		if k > math.MinInt64 {
			expectNext(t, m, k-1, k, true)
		}
	}
	if _, least := want[math.MinInt64]; !least && len(keys) > 0 {
		expectNext(t, m, math.MinInt64, keys[0], true)
	}
}

func expectNext(t *testing.T, m *kv.Map, k, want int64, there bool) {
	t.Helper()
	if n, ok, e := m.Next(k); n != want || ok != there || e != api.OK {
		t.Errorf("Next(%d): %d, %v, refusal %d, not %d, %v", k, n, ok, e, want, there)
	}
}

// P24.1: New

func TestNewIsFormatAndInstall(t *testing.T) {
	for _, c := range [][2]int{{64, 97}, {64, 160}, {20, 60}, {14, 47}} {
		d, other := disk.Of(bytes.Repeat([]byte{0xee}, c[1]*api.Sector)), disk.Of(bytes.Repeat([]byte{0xee}, c[1]*api.Sector))
		d.Write(5, make([]byte, api.Sector))
		m, e := kv.New(d, c[0])
		if e != api.OK {
			t.Fatalf("New of %v: %d", c, e)
		}
		store.Format(other, c[0], pages)
		host.Install(other, table.Unit())
		host.Open(other)
		if !bytes.Equal(d.Seen(), other.Seen()) || !bytes.Equal(d.Image(), other.Image()) || len(d.Waits()) > 0 {
			t.Errorf("New of %v: another disk", c)
		}
		if r := m.Host().Store().Root(); r.Log != c[0] || r.Pages != pages {
			t.Errorf("New of %v: %v", c, r)
		}
		expectMap(t, m, nil)
	}
}

func TestNewRefuses(t *testing.T) {
	for _, log := range []int{0, 13, math.MinInt} {
		if m, e := kv.New(nil, log); m != nil || e != api.ErrArg {
			t.Errorf("New of no disk: %d", e)
		}
	}
	needed := 0
	l, _ := plate.Put(table.Unit(), pages)
	for needed*api.Sector < 18+66*len(l) {
		needed++
	}
	for _, c := range []struct {
		sectors, log int
		want         api.Errno
	}{
		{160, 0, api.ErrSize}, {160, -1, api.ErrSize}, {160, 65, api.ErrSize}, {160, math.MaxInt, api.ErrSize}, {160, math.MinInt, api.ErrSize}, {96, 64, api.ErrSize}, {33, 1, api.ErrSize}, {1, 1, api.ErrSize}, {2, 60, api.ErrSize},
		{160, 1, api.ErrFull}, {160, 2, api.ErrFull}, {160, needed - 1, api.ErrFull}, {34, 1, api.ErrFull}, {160, needed, api.OK}, {33 + needed, needed, api.OK},
	} {
		// A disk on which a table stands, or at least some bytes, and something waits.
		d := disk.Of(bytes.Repeat([]byte{7}, c.sectors*api.Sector))
		if old, e := kv.New(d, 60); e == api.OK {
			put(t, old, 1, 2, api.OK)
		}
		lasting, seen, waits := d.Image(), d.Seen(), d.Waits()
		m, e := kv.New(d, c.log)
		if e != c.want || (m != nil) != (e == api.OK) {
			t.Errorf("New of %d sectors, log %d: %d, not %d", c.sectors, c.log, e, c.want)
		}
		if e != api.OK && (!bytes.Equal(d.Image(), lasting) || !bytes.Equal(d.Seen(), seen) || !slices.Equal(d.Waits(), waits)) {
			t.Errorf("New of %d sectors, log %d: refused, and the disk is turned", c.sectors, c.log)
		}
		if e == api.OK {
			expectMap(t, m, nil)
		}
	}
}

// P24.1: Open

func TestOpenRefuses(t *testing.T) {
	refuse := func(what string, d *disk.Disk, want api.Errno) {
		t.Helper()
		if m, e := kv.Open(d); m != nil || e != want {
			t.Errorf("%s: %d, not %d", what, e, want)
		}
	}
	with := func(u api.Unit) *disk.Disk {
		d := disk.New(100)
		store.Format(d, 60, pages)
		if e := host.Install(d, u); e != api.OK {
			t.Fatalf("Install: %d", e)
		}
		return d
	}
	refuse("no disk", nil, api.ErrArg)
	refuse("zeros", disk.New(100), api.ErrNone)
	d := disk.New(100)
	store.Format(d, 60, pages)
	refuse("formatted", d, api.ErrForm)
	d.Write(1, root.Bytes(api.Root{Log: 60, Pages: pages, Epoch: math.MaxUint32}))
	refuse("the last epoch", d, api.ErrFull)
	refuse("no functions", with(api.Unit{Pages: 1, Most: 20}), api.ErrForm)
	u := table.Unit()
	u.Most = 19
	refuse("another Most", with(u), api.ErrForm)
	u = table.Unit()
	u.Funcs = append(u.Funcs, api.Func{Name: 'z', Code: "1"})
	refuse("a function more", with(u), api.ErrForm)
	u = table.Unit()
	u.Funcs[0], u.Funcs[1] = u.Funcs[1], u.Funcs[0]
	refuse("another order", with(u), api.ErrForm)
	u = table.Unit()
	u.Funcs[5].Code += "0+"
	refuse("another code", with(u), api.ErrForm)
	u = table.Unit()
	u.Funcs[5].Code = " " + u.Funcs[5].Code + " "
	expectMap(t, opened(t, with(u)), nil)
}

func TestOpenFindsTheTable(t *testing.T) {
	d, m := made(t, 20)
	put(t, m, 5, 50, api.OK)
	put(t, m, -5, 60, api.OK)
	put(t, m, 7, 70, api.OK)
	del(t, m, 5, true, api.OK)
	want := map[int64]int64{-5: 60, 7: 70}
	expectMap(t, m, want)
	m = opened(t, d)
	expectMap(t, m, want)
	put(t, m, 8, 80, api.OK)
	want[8] = 80
	expectMap(t, opened(t, d), want)
}

// P24.1: calls

func TestCalls(t *testing.T) {
	_, m := made(t, 20)
	get(t, m, 1, 0, false, api.OK)
	del(t, m, 1, false, api.OK)
	expectNext(t, m, 0, 0, false)
	expectNext(t, m, math.MinInt64, 0, false)
	put(t, m, 1, 10, api.OK)
	put(t, m, 2, 0, api.OK)
	get(t, m, 1, 10, true, api.OK)
	get(t, m, 2, 0, true, api.OK)
	get(t, m, 3, 0, false, api.OK)
	put(t, m, 1, 11, api.OK)
	expectMap(t, m, map[int64]int64{1: 11, 2: 0})
	expectNext(t, m, 2, 0, false)
	del(t, m, 1, true, api.OK)
	del(t, m, 1, false, api.OK)
	expectMap(t, m, map[int64]int64{2: 0})
	put(t, m, math.MaxInt64, -1, api.OK)
	put(t, m, math.MinInt64, -2, api.OK)
	put(t, m, 0, -1, api.OK)
	put(t, m, -1, math.MinInt64, api.OK)
	expectMap(t, m, map[int64]int64{2: 0, math.MaxInt64: -1, math.MinInt64: -2, 0: -1, -1: math.MinInt64})
	expectNext(t, m, math.MaxInt64, 0, false)
	expectNext(t, m, -2, -1, true)
	expectNext(t, m, -1, 0, true)
}

func TestKeysAndNumbersAreReplies(t *testing.T) {
	_, m := made(t, 20)
	put(t, m, "ab", 5, api.OK)
	get(t, m, 2, 5, true, api.OK)
	get(t, m, []any{nil, nil}, 5, true, api.OK)
	put(t, m, true, "xyz", api.OK)
	put(t, m, int64(-9), 'a', api.OK)
	put(t, m, 'b', []any{}, api.OK)
	put(t, m, "", false, api.OK)
	expectMap(t, m, map[int64]int64{2: 5, 1: 3, -9: 97, 98: 0, 0: 0})
	del(t, m, "é", true, api.OK)
	del(t, m, false, true, api.OK)
	expectMap(t, m, map[int64]int64{2: 5, -9: 97, 98: 0})
}

func TestRefusedByType(t *testing.T) {
	d, m := made(t, 20)
	put(t, m, 1, 10, api.OK)
	seen := d.Seen()
	for _, v := range []any{1.5, nil, uint(1), []int{1}, struct{}{}, int8(3), map[string]any{}, (*int)(nil)} {
		put(t, m, v, 1, api.ErrType)
		put(t, m, 1, v, api.ErrType)
		put(t, m, v, v, api.ErrType)
		get(t, m, v, 0, false, api.ErrType)
		del(t, m, v, false, api.ErrType)
	}
	expectMap(t, m, map[int64]int64{1: 10})
	if !bytes.Equal(d.Seen(), seen) {
		t.Error("a refused call has turned the disk")
	}
}

func TestAFullTable(t *testing.T) {
	d, m := made(t, 14)
	want := map[int64]int64{}
	for i := range int64(79) {
		k := i*37%79 - 30
		put(t, m, k, i, api.OK)
		want[k] = i
	}
	m.Sync()
	seen, calls := d.Seen(), m.Host().Calls()
	for _, k := range []int64{100, -100, math.MaxInt64} {
		put(t, m, k, 1, api.ErrFull)
		get(t, m, k, 0, false, api.OK)
	}
	if !bytes.Equal(d.Seen(), seen) || m.Host().Calls() != calls {
		t.Error("one too many has turned something")
	}
	put(t, m, 3, 1, api.OK)
	want[3] = 1
	expectMap(t, m, want)
	del(t, m, 4, true, api.OK)
	put(t, m, 100, 1, api.OK)
	put(t, m, 101, 1, api.ErrFull)
	delete(want, 4)
	want[100] = 1
	expectMap(t, m, want)
	expectMap(t, opened(t, d), want)
}

func TestAFullLogIsEmptied(t *testing.T) {
	d, m := made(t, 14)
	epoch, want := m.Host().Store().Root().Epoch, map[int64]int64{}
	for i := range int64(60) {
		put(t, m, i, i, api.OK)
		want[i] = i
		if i%3 == 2 {
			del(t, m, i-1, true, api.OK)
			delete(want, i-1)
		}
	}
	if now := m.Host().Store().Root().Epoch; now <= epoch+5 {
		t.Errorf("the Epoch has come from %d to %d", epoch, now)
	}
	expectMap(t, m, want)
	// What a Checkpoint came behind is sure.
	d.Crash()
	if m = opened(t, d); m.Count() < len(want)/2 {
		t.Errorf("Count is %d behind a crash", m.Count())
	}
}

// late is a Map whose store has come to the last epoch.
func late(t *testing.T, log int) (*disk.Disk, *kv.Map) {
	t.Helper()
	d, _ := made(t, log)
	d.Write(0, root.Bytes(api.Root{Log: log, Pages: pages, Epoch: math.MaxUint32 - 1}))
	d.Write(1, make([]byte, api.Sector))
	return d, opened(t, d)
}

func TestALogThatCanNotBeEmptied(t *testing.T) {
	d, m := late(t, 14)
	want := map[int64]int64{}
	// New keys, then one key's numbers, till nothing more goes into the log.
	for i := int64(0); i < 40; i++ {
		k := i % 10 * max(9-i, 0)
		e := m.Put(k, i)
		if e == api.OK {
			want[k] = i
		} else if e != api.ErrFull {
			t.Fatalf("Put %d: %d", i, e)
		}
	}
	seen := d.Seen()
	put(t, m, 0, 99, api.ErrFull)
	put(t, m, 900, 1, api.ErrFull)
	del(t, m, 0, false, api.ErrFull)
	put(t, m, 0, want[0], api.OK)
	del(t, m, 900, false, api.OK)
	expectMap(t, m, want)
	if !bytes.Equal(d.Seen(), seen) {
		t.Error("a refused call has turned the disk")
	}
}

func TestSync(t *testing.T) {
	d, m := made(t, 20)
	put(t, m, 1, 10, api.OK)
	if len(d.Waits()) == 0 {
		t.Error("nothing waits")
	}
	m.Sync()
	if len(d.Waits()) > 0 {
		t.Errorf("Waits are %v", d.Waits())
	}
	put(t, m, 2, 20, api.OK)
	d.Crash()
	expectMap(t, opened(t, d), map[int64]int64{1: 10})
}

func TestHost(t *testing.T) {
	_, m := made(t, 20)
	h := m.Host()
	if h == nil || h != m.Host() || !unit.Same(h.Unit(), table.Unit()) {
		t.Fatal("Host is not the table's, or not always the same")
	}
	put(t, m, 1, 10, api.OK)
	get(t, m, 1, 10, true, api.OK)
	if h.Calls() != 1 {
		t.Errorf("Calls are %d", h.Calls())
	}
	if r, e := h.Call('p', 1000, nil, 2, 20); e != api.OK || r.Value != 1 {
		t.Errorf("the host's call: %v, %d", r, e)
	}
	expectMap(t, m, map[int64]int64{1: 10, 2: 20})
}

func TestAMemoryThatIsNoTable(t *testing.T) {
	d, m := made(t, 20)
	first := int(plate.Need(table.Unit())) - table.Most
	b := bytes.Repeat([]byte{0x7f}, api.Sector)
	if e := m.Host().Store().Commit(api.Change{Page: first, B: b}); e != api.OK {
		t.Fatalf("Commit: %d", e)
	}
	m = opened(t, d)
	get(t, m, 1, 0, false, api.ErrTrap)
	del(t, m, 1, false, api.ErrTrap)
	put(t, m, 1, 1, api.ErrTrap)
	if n, ok, e := m.Next(1); n != 0 || ok || e != api.ErrTrap {
		t.Errorf("Next: %d, %v, %d", n, ok, e)
	}
	m.Count()
}

// P24.2

// steps is a row of numbers that is the same in every run.
type steps uint64

func (s *steps) below(n int) int {
	*s = *s*6364136223846793005 + 1442695040888963407
	return int(*s >> 33 % steps(n))
}

// content tells all that m has, by Next and Get.
func content(t *testing.T, m *kv.Map) map[int64]int64 {
	t.Helper()
	got := map[int64]int64{}
	for k := int64(math.MinInt64); ; {
		if n, ok, _ := m.Get(k); ok {
			got[k] = n
		}
		next, ok, e := m.Next(k)
		if e != api.OK {
			t.Fatalf("Next: %d", e)
		}
		if !ok {
			return got
		}
		k = next
	}
}

func TestATableThatCrashes(t *testing.T) {
	for seed := range 30 {
		r := steps(seed)
		d, m := made(t, 13+r.below(12))
		now := map[int64]int64{}
		states, sure := []map[int64]int64{{}}, 0
		for n := range 80 {
			k := int64(r.below(30) - 15)
			switch r.below(12) {
			case 0:
				m.Sync()
				sure = len(states) - 1
			case 1:
				var cuts []int
				for range d.Waits() {
					cuts = append(cuts, []int{0, api.Sector, r.below(api.Sector + 1)}[r.below(3)])
				}
				d.Crash(cuts...)
				m = opened(t, d)
				got, last := content(t, m), len(states)-1
				for last >= sure && !maps.Equal(states[last], got) {
					last--
				}
				if last < sure {
					t.Fatalf("row %d: behind a crash it is none that it was: %v", seed, got)
				}
				states, sure, now = states[:last+1], last, maps.Clone(states[last])
			case 2, 3, 4:
				_, there := now[k]
				del(t, m, k, there, api.OK)
				delete(now, k)
			default:
				put(t, m, k, n, api.OK)
				now[k] = int64(n)
			}
			states = append(states, maps.Clone(now))
		}
		expectMap(t, m, now)
		if t.Failed() {
			t.Fatalf("row %d", seed)
		}
	}
}
