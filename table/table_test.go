package table_test

import (
	"bytes"
	"maps"
	"math"
	"slices"
	"testing"

	"engram/api"
	"engram/cells"
	"engram/engine"
	"engram/reply"
	"engram/table"
	"engram/unit"
)

// steps is a row of numbers that is the same in every run.
type steps uint64

func (s *steps) below(n int) int {
	*s = *s*6364136223846793005 + 1442695040888963407
	return int(*s >> 33 % steps(n))
}

// kept is a table by the program, and what it should be.
type kept struct {
	memory *cells.Memory
	plain  map[int64]int64
}

func empty() *kept {
	u := table.Unit()
	return &kept{memory: cells.New(u.Pages, u.Most), plain: map[int64]int64{}}
}

// call makes one call with the least fuel that must do, and holds its answer against what it should be.
func (k *kept) call(t *testing.T, want int64, name rune, args ...int64) {
	t.Helper()
	r := reply.New(1, 2, 3)
	fuel := int64(100*len(k.plain) + 200)
	got, e := engine.Run(table.Unit(), k.memory, r, name, fuel, args...)
	if e != api.OK || got.Trap != api.Done || got.Value != want {
		t.Fatalf("%c%v of %d entries: %v, refusal %d, not %d", name, args, len(k.plain), got, e, want)
	}
	if len(r.Asks()) > 0 {
		t.Fatalf("%c%v asks the host", name, args)
	}
}

// keys tells what is there, rising.
func (k *kept) keys() []int64 { return slices.Sorted(maps.Keys(k.plain)) }

func (k *kept) put(t *testing.T, key, n int64) {
	t.Helper()
	_, there := k.plain[key]
	full := len(k.plain) == table.Room(table.Most)
	pages, before := k.memory.Pages(), k.memory.Bytes()
	switch {
	case there:
		k.call(t, 0, 'p', key, n)
	case full:
		k.call(t, -1, 'p', key, n)
		if !bytes.Equal(k.memory.Bytes(), before) {
			t.Fatal("a refused p has turned the memory")
		}
		return
	default:
		k.call(t, 1, 'p', key, n)
		if len(k.plain) == table.Room(pages) {
			pages++
		}
	}
	k.plain[key] = n
	k.expectPages(t, pages)
}

func (k *kept) expectPages(t *testing.T, want int) {
	t.Helper()
	if k.memory.Pages() != want {
		t.Fatalf("%d pages, not %d, for %d entries", k.memory.Pages(), want, len(k.plain))
	}
}

func (k *kept) del(t *testing.T, key int64) {
	t.Helper()
	pages := k.memory.Pages()
	_, there := k.plain[key]
	want := int64(0)
	if there {
		want = 1
	}
	k.call(t, want, 'd', key)
	delete(k.plain, key)
	k.expectPages(t, pages)
}

// ask holds all that the table tells of a key against what it should, and that nothing is turned by it.
func (k *kept) ask(t *testing.T, key int64) {
	t.Helper()
	before, pages := k.memory.Bytes(), k.memory.Pages()
	n, there := k.plain[key]
	is, above := int64(0), key
	if there {
		is = 1
	}
	for _, x := range k.keys() {
		if x > key {
			above = x
			break
		}
	}
	k.call(t, is, 'h', key)
	k.call(t, n, 'g', key)
	k.call(t, above, 'n', key)
	k.call(t, int64(len(k.plain)), 'c')
	if k.memory.Pages() != pages || !bytes.Equal(k.memory.Bytes(), before) {
		t.Fatal("asking turns the memory")
	}
}

// askAll asks each key that is there, and those beside it.
func (k *kept) askAll(t *testing.T) {
	t.Helper()
	for _, key := range append(k.keys(), 0, -1, math.MaxInt64, math.MinInt64) {
		for _, x := range []int64{key - 1, key, key + 1} {
			k.ask(t, x)
		}
	}
}

// P23.1: what the program is

func TestUnit(t *testing.T) {
	u := table.Unit()
	if e := unit.Right(u); e != api.OK {
		t.Fatalf("Right refuses: %d", e)
	}
	text, e := unit.Text(u)
	if e != api.OK || len(text) > 640 {
		t.Errorf("Text has %d bytes, refusal %d", len(text), e)
	}
	if u.Pages != 1 || u.Most != 20 || table.Most != 20 {
		t.Errorf("Pages %d, Most %d", u.Pages, u.Most)
	}
	back, e := unit.Parse(text)
	if e != api.OK || !unit.Same(back, u) {
		t.Errorf("Parse of Text: %v, refusal %d", back, e)
	}
	args := map[rune]int{}
	for _, f := range u.Funcs {
		args[f.Name] = f.Args
	}
	if !maps.Equal(args, map[rune]int{'p': 2, 'g': 1, 'h': 1, 'd': 1, 'n': 1, 'c': 0}) {
		t.Errorf("functions and args are %v", args)
	}
}

func TestUnitIsNew(t *testing.T) {
	u := table.Unit()
	text, _ := unit.Text(u)
	clear(u.Funcs[:cap(u.Funcs)])
	if again, _ := unit.Text(table.Unit()); again != text {
		t.Error("a spoilt Unit spoils the next")
	}
}

func TestRoom(t *testing.T) {
	for pages, want := range map[int]int{0: 0, -1: 0, math.MinInt: 0, 1: 3, 2: 7, 3: 11, 4: 15, 19: 75, 20: 79, 64: 255, 1 << 20: 4<<20 - 1} {
		if got := table.Room(pages); got != want {
			t.Errorf("Room(%d) is %d, not %d", pages, got, want)
		}
	}
	for pages := 1; pages < 1000; pages++ {
		if got := table.Room(pages); got != (64*pages-8)/16 {
			t.Errorf("Room(%d) is %d", pages, got)
		}
	}
}

// P23.1: what it answers

func TestAnEmptyTable(t *testing.T) {
	k := empty()
	for _, key := range []int64{0, 1, -1, 8, 64, math.MaxInt64, math.MinInt64} {
		k.ask(t, key)
		k.del(t, key)
	}
	k.expectPages(t, 1)
	if !bytes.Equal(k.memory.Bytes(), make([]byte, 64)) {
		t.Error("a table of nothing is turned by asking, or by d")
	}
}

func TestOneEntry(t *testing.T) {
	for _, key := range []int64{0, 1, -1, 16, 255, 256, math.MaxInt64, math.MinInt64} {
		for _, n := range []int64{0, 1, -1, math.MaxInt64, math.MinInt64} {
			k := empty()
			k.put(t, key, n)
			k.askAll(t)
			k.put(t, key, n)
			k.put(t, key, 5)
			k.put(t, key, 0)
			k.askAll(t)
			k.del(t, key)
			k.askAll(t)
			k.del(t, key)
			k.put(t, key, n)
			k.askAll(t)
		}
	}
}

func TestAFullTable(t *testing.T) {
	for _, order := range []func(i int) int64{
		func(i int) int64 { return int64(i) },
		func(i int) int64 { return int64(-i) },
		func(i int) int64 { return int64(i*37%100) - 50 },
		func(i int) int64 { return math.MaxInt64 - int64(i) },
		func(i int) int64 { return math.MinInt64 + int64(i*37%100) },
	} {
		k := empty()
		for i := range table.Room(table.Most) {
			k.ask(t, order(i))
			k.put(t, order(i), int64(i*i))
			k.ask(t, order(i/2))
		}
		k.expectPages(t, table.Most)
		k.askAll(t)
		k.put(t, 1000, 1)
		k.put(t, -1000, 1)
		k.put(t, order(40), 7777)
		k.askAll(t)
		// One that goes makes room for one that comes, without more pages.
		k.del(t, order(0))
		k.put(t, 1000, 1)
		k.put(t, 1001, 1)
		k.askAll(t)
		for i := range table.Room(table.Most) {
			k.del(t, order(i*13%79))
			k.ask(t, order(i))
		}
		k.del(t, 1000)
		if len(k.plain) > 0 {
			t.Fatalf("%d entries are left", len(k.plain))
		}
		k.askAll(t)
		k.expectPages(t, table.Most)
		for i := range 5 {
			k.put(t, int64(i), 1)
		}
		k.askAll(t)
	}
}

func TestAnEntryGoesFromEachPlace(t *testing.T) {
	for size := 1; size < 12; size++ {
		for gone := range size {
			k := empty()
			for i := range size {
				k.put(t, int64(i*7%12), int64(100+i))
			}
			k.del(t, int64(gone*7%12))
			k.askAll(t)
			k.put(t, 50, 60)
			k.askAll(t)
		}
	}
}

func TestLongRowsOfCalls(t *testing.T) {
	for seed := range 12 {
		r := steps(seed)
		k := empty()
		span := 1 + r.below(120)
		for range 400 {
			key := int64(r.below(span) - span/2)
			switch r.below(5) {
			case 0:
				k.del(t, key)
			case 1:
				k.ask(t, key)
			default:
				k.put(t, key, int64(r.below(1000)-500))
			}
		}
		k.askAll(t)
	}
}
