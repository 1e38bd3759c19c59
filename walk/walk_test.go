package walk_test

import (
	"bytes"
	"math"
	"slices"
	"testing"

	"engram/api"
	"engram/disk"
	"engram/kv"
	"engram/plate"
	"engram/table"
	"engram/walk"
)

// of is a Map of these keys and numbers.
func of(t *testing.T, l ...[2]int64) *kv.Map {
	t.Helper()
	m, e := kv.New(disk.New(97), 64)
	if e != api.OK {
		t.Fatalf("New: %d", e)
	}
	for _, x := range l {
		if e := m.Put(x[0], x[1]); e != api.OK {
			t.Fatalf("Put %v: %d", x, e)
		}
	}
	return m
}

// full is as many keys as there may be, three apart, and their numbers, rising.
func full() [][2]int64 {
	var l [][2]int64
	for i := range int64(79) {
		l = append(l, [2]int64{3*i - 100, 1000 - i*i})
	}
	return l
}

// shuffled is l in another order.
func shuffled(l [][2]int64) [][2]int64 {
	var m [][2]int64
	for i := range l {
		m = append(m, l[i*37%len(l)])
	}
	return m
}

func expect(t *testing.T, what string, got [][2]int64, e api.Errno, want ...[2]int64) {
	t.Helper()
	if e != api.OK || !slices.Equal(got, want) {
		t.Errorf("%s: %v, refusal %d, not %v", what, got, e, want)
	}
}

func refuse(t *testing.T, what string, got [][2]int64, e, want api.Errno) {
	t.Helper()
	if e != want || len(got) > 0 {
		t.Errorf("%s: %v, refusal %d, not %d", what, got, e, want)
	}
}

// P25.1

func TestAll(t *testing.T) {
	got, e := walk.All(of(t))
	expect(t, "an empty one", got, e)
	got, e = walk.All(of(t, [2]int64{5, 0}))
	expect(t, "one", got, e, [2]int64{5, 0})
	edges := [][2]int64{{math.MinInt64, 4}, {-1, 3}, {0, 2}, {1, math.MinInt64}, {math.MaxInt64, math.MaxInt64}}
	got, e = walk.All(of(t, shuffled(edges)...))
	expect(t, "the least and the greatest", got, e, edges...)
	got, e = walk.All(of(t, shuffled(full())...))
	expect(t, "a full one", got, e, full()...)
}

func TestFrom(t *testing.T) {
	all := full()
	m := of(t, shuffled(all)...)
	for _, n := range []int{0, 1, 2, 5, 63, 64} {
		for _, k := range []int64{math.MinInt64, -1000, -101, -100, -99, -98, -97, -96, 0, 2, 130, 133, 134, 135, 1000, math.MaxInt64} {
			var want [][2]int64
			for _, x := range all {
				if x[0] >= k && len(want) < n {
					want = append(want, x)
				}
			}
			got, e := walk.From(m, k, n)
			expect(t, "From", got, e, want...)
		}
	}
	got, e := walk.From(m, math.MinInt64, 64)
	expect(t, "the first 64", got, e, all[:64]...)
}

func TestFromTheEdges(t *testing.T) {
	m := of(t, [2]int64{math.MinInt64, 1}, [2]int64{math.MaxInt64, 2})
	got, e := walk.From(m, math.MinInt64, 2)
	expect(t, "both", got, e, [2]int64{math.MinInt64, 1}, [2]int64{math.MaxInt64, 2})
	got, e = walk.From(m, math.MinInt64, 1)
	expect(t, "the least", got, e, [2]int64{math.MinInt64, 1})
	got, e = walk.From(m, math.MinInt64+1, 64)
	expect(t, "above the least", got, e, [2]int64{math.MaxInt64, 2})
	got, e = walk.From(m, math.MaxInt64, 64)
	expect(t, "the greatest", got, e, [2]int64{math.MaxInt64, 2})
	got, e = walk.From(of(t), 0, 64)
	expect(t, "of an empty one", got, e)
}

func TestBack(t *testing.T) {
	all := full()
	m := of(t, shuffled(all)...)
	slices.Reverse(all)
	for n := range api.MaxScan + 1 {
		got, e := walk.Back(m, n)
		expect(t, "Back", got, e, all[:n]...)
	}
	few := of(t, [2]int64{5, 50}, [2]int64{-5, 60}, [2]int64{1, 70})
	want := [][2]int64{{5, 50}, {1, 70}, {-5, 60}}
	for _, n := range []int{0, 1, 2, 3, 4, 64} {
		got, e := walk.Back(few, n)
		expect(t, "of three", got, e, want[:min(n, 3)]...)
	}
	got, e := walk.Back(of(t), 64)
	expect(t, "of an empty one", got, e)
}

func TestSum(t *testing.T) {
	many := int64(0)
	for _, x := range full() {
		many += x[1]
	}
	for _, c := range []struct {
		l    [][2]int64
		want int64
	}{
		{nil, 0}, {[][2]int64{{7, 5}}, 5}, {[][2]int64{{7, 5}, {8, -6}}, -1}, {full(), many},
		{[][2]int64{{1, math.MaxInt64}, {2, 1}}, math.MinInt64}, {[][2]int64{{1, math.MinInt64}, {2, -1}}, math.MaxInt64}, {[][2]int64{{math.MinInt64, 1}, {math.MaxInt64, 2}}, 3},
	} {
		if got, e := walk.Sum(of(t, c.l...)); got != c.want || e != api.OK {
			t.Errorf("Sum of %v: %d, refusal %d, not %d", c.l, got, e, c.want)
		}
	}
}

func TestRefusals(t *testing.T) {
	m := of(t, [2]int64{1, 10}, [2]int64{2, 20})
	got, e := walk.All(nil)
	refuse(t, "All of nil", got, e, api.ErrArg)
	if n, e := walk.Sum(nil); n != 0 || e != api.ErrArg {
		t.Errorf("Sum of nil: %d, refusal %d", n, e)
	}
	for _, n := range []int{0, 1, 64, -1, 65} {
		got, e = walk.From(nil, 0, n)
		refuse(t, "From nil", got, e, api.ErrArg)
		got, e = walk.Back(nil, n)
		refuse(t, "Back of nil", got, e, api.ErrArg)
	}
	for _, n := range []int{-1, 65, math.MaxInt, math.MinInt} {
		got, e = walk.From(m, 0, n)
		refuse(t, "From so many", got, e, api.ErrArg)
		got, e = walk.Back(m, n)
		refuse(t, "Back so many", got, e, api.ErrArg)
	}
}

func TestNothingIsTurned(t *testing.T) {
	m := of(t, full()...)
	before, calls := m.Host().Memory(), m.Host().Calls()
	walk.All(m)
	walk.From(m, 0, 64)
	walk.Back(m, 64)
	walk.Sum(m)
	if !bytes.Equal(m.Host().Memory(), before) || m.Host().Calls() != calls {
		t.Error("a walk turns the table")
	}
}

func TestAMemoryThatIsNoTable(t *testing.T) {
	d := disk.New(97)
	m, _ := kv.New(d, 64)
	b := bytes.Repeat([]byte{0x7f}, api.Sector)
	m.Host().Store().Commit(api.Change{Page: plate.Need(table.Unit()) - table.Most, B: b})
	m, e := kv.Open(d)
	if e != api.OK {
		t.Fatalf("Open: %d", e)
	}
	got, e := walk.All(m)
	refuse(t, "All", got, e, api.ErrTrap)
	got, e = walk.From(m, 0, 5)
	refuse(t, "From", got, e, api.ErrTrap)
	got, e = walk.Back(m, 5)
	refuse(t, "Back", got, e, api.ErrTrap)
	if n, e := walk.Sum(m); n != 0 || e != api.ErrTrap {
		t.Errorf("Sum: %d, refusal %d", n, e)
	}
	got, e = walk.From(m, 0, 0)
	expect(t, "From of none", got, e)
}
