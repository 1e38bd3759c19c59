package model_test

import (
	"bytes"
	"math"
	"slices"
	"testing"

	"engram/api"
	"engram/disk"
	"engram/host"
	"engram/model"
	"engram/store"
)

// program stores, loads, grows, traps behind a store, and asks. It begins with so many pages.
func program(pages int) api.Unit {
	return api.Unit{Pages: pages, Most: 5, Funcs: []api.Func{
		{Name: 's', Args: 2, Code: "a.b$@"}, {Name: 'l', Args: 1, Code: "a@"}, {Name: 'g', Args: 1, Code: "a¤"}, {Name: 'h', Args: 2, Code: "ab$¡"}, {Name: 'w', Args: 2, Code: "1¤,ab$1"}, {Name: 'q', Args: 1, Code: "aaπq1+$1"},
	}}
}

func step(name rune, args ...int64) model.Step { return model.Step{Name: name, Args: args} }

// memory is so many pages of zeros but these bytes.
func memory(n int, at map[int]byte) []byte {
	b := make([]byte, n*api.Sector)
	for i, x := range at {
		b[i] = x
	}
	return b
}

// rows are steps, and what the memory is behind each of them.
func rows() ([]model.Step, [][]byte) {
	return []model.Step{
		step('s', 8, 5), step('s', 8, 5), step('l', 8), step('h', 8, 9), step('s', 57, 9), step('z'), step('s', 8), step('g', 1), step('g', 4), step('g', 0), step('s', 100, 7), step('w', 8, 6), step('w', 185, 6), step('q', 16), step('s', 8, 5),
	}, [][]byte{
		memory(1, nil), memory(1, map[int]byte{8: 5}), memory(1, map[int]byte{8: 5}), memory(1, map[int]byte{8: 5}), memory(1, map[int]byte{8: 5}), memory(1, map[int]byte{8: 5}), memory(1, map[int]byte{8: 5}), memory(1, map[int]byte{8: 5}),
		memory(2, map[int]byte{8: 5}), memory(2, map[int]byte{8: 5}), memory(2, map[int]byte{8: 5}), memory(2, map[int]byte{8: 5, 100: 7}), memory(3, map[int]byte{8: 6, 100: 7}), memory(4, map[int]byte{8: 6, 100: 7, 185: 6}), memory(4, map[int]byte{8: 6, 16: 1, 100: 7, 185: 6}), memory(4, map[int]byte{8: 5, 16: 1, 100: 7, 185: 6}),
	}
}

func expectFold(t *testing.T, what string, u api.Unit, l []model.Step, fuel int64, want []byte, turned int) {
	t.Helper()
	if b, n, e := model.Fold(u, l, fuel); !bytes.Equal(b, want) || n != turned || e != api.OK {
		t.Errorf("%s: Fold tells %v, %d, refusal %d, not %v, %d", what, b, n, e, want, turned)
	}
}

// P27.1: Fold, All

func TestFoldAndAll(t *testing.T) {
	l, want := rows()
	turned := 0
	for n := range len(l) + 1 {
		if n > 0 && !bytes.Equal(want[n], want[n-1]) {
			turned++
		}
		expectFold(t, "some steps", program(1), l[:n], 100, want[n], turned)
		if got, e := model.All(program(1), l[:n], 100); e != api.OK || !slices.EqualFunc(got, want[:n+1], bytes.Equal) {
			t.Errorf("All of %d steps: %v, refusal %d", n, got, e)
		}
	}
	if turned != 7 {
		t.Fatalf("%d steps turn something", turned)
	}
}

func TestNoSteps(t *testing.T) {
	for _, l := range [][]model.Step{nil, {}} {
		for pages := range 6 {
			expectFold(t, "no steps", program(pages), l, 100, make([]byte, pages*64), 0)
			if got, e := model.All(program(pages), l, 100); e != api.OK || len(got) != 1 || !bytes.Equal(got[0], make([]byte, pages*64)) {
				t.Errorf("All of no steps: %v, refusal %d", got, e)
			}
		}
	}
	expectFold(t, "no functions", api.Unit{}, []model.Step{step('a'), step('b', 1)}, 100, nil, 0)
}

func TestAMemoryOfNoPages(t *testing.T) {
	l := []model.Step{step('s', 0, 5), step('g', 2), step('s', 0, 5), step('s', 120, 6)}
	expectFold(t, "grown from nothing", program(0), l, 100, memory(2, map[int]byte{0: 5, 120: 6}), 3)
}

func TestFuel(t *testing.T) {
	// s has five tokens, of which the fourth stores.
	for fuel, turned := range map[int64]int{0: 0, 3: 0, 4: 0, 5: 2, 6: 2, api.MaxFuel: 2, api.MaxFuel + 1: 0, -1: 0, math.MinInt64: 0, math.MaxInt64: 0} {
		want := memory(1, nil)
		if turned > 0 {
			want = memory(1, map[int]byte{8: 5, 16: 6})
		}
		expectFold(t, "fuel", program(1), []model.Step{step('s', 8, 5), step('s', 16, 6)}, fuel, want, turned)
	}
}

func TestReplies(t *testing.T) {
	// Each step has a Row of its own, that answers 0.
	var l []model.Step
	for range 3 {
		l = append(l, step('q', 8))
	}
	expectFold(t, "replies", program(1), l, 100, memory(1, map[int]byte{8: 1}), 1)
}

func TestRefusals(t *testing.T) {
	l, _ := rows()
	for want, u := range map[api.Errno]api.Unit{
		api.ErrSize: {Pages: 1}, api.ErrLong: {Funcs: make([]api.Func, 33)}, api.ErrForm: {Funcs: []api.Func{{Name: 'F', Code: "1"}}}, api.ErrStack: {Funcs: []api.Func{{Name: 'f', Code: "+"}}}, api.ErrNest: {Funcs: []api.Func{{Name: 'f', Code: "?"}}}, api.ErrDead: {Funcs: []api.Func{{Name: 'f', Code: "¡1"}}}, api.ErrNone: {Funcs: []api.Func{{Name: 'f', Code: "λg"}}},
	} {
		for _, fuel := range []int64{100, -1} {
			for _, steps := range [][]model.Step{nil, l} {
				if b, n, e := model.Fold(u, steps, fuel); len(b) > 0 || n != 0 || e != want {
					t.Errorf("Fold: %v, %d, refusal %d, not %d", b, n, e, want)
				}
				if got, e := model.All(u, steps, fuel); len(got) > 0 || e != want {
					t.Errorf("All: %v, refusal %d, not %d", got, e, want)
				}
				for _, b := range [][]byte{nil, {}, make([]byte, 64)} {
					if got := model.Which(u, steps, fuel, b); got != -1 {
						t.Errorf("Which: %d", got)
					}
				}
			}
		}
	}
}

// P27.1: Which

func TestWhich(t *testing.T) {
	l, states := rows()
	for n := range len(l) + 1 {
		for i, b := range states {
			want := -1
			for j, x := range states[:n+1] {
				if bytes.Equal(x, b) {
					want = j
				}
			}
			if got := model.Which(program(1), l[:n], 100, b); got != want {
				t.Errorf("Which of state %d in %d steps: %d, not %d", i, n, got, want)
			}
		}
	}
	for _, b := range [][]byte{nil, {}, {0}, make([]byte, 63), make([]byte, 65), memory(1, map[int]byte{8: 4}), memory(2, nil), states[12][:64]} {
		if got := model.Which(program(1), l, 100, b); got != -1 {
			t.Errorf("Which of what never was: %d", got)
		}
	}
	for _, b := range [][]byte{nil, {}, make([]byte, 0, 64)} {
		if got := model.Which(program(0), []model.Step{step('l', 0), step('g', 0)}, 100, b); got != 2 {
			t.Errorf("Which of no bytes: %d", got)
		}
	}
	if got := model.Which(program(1), nil, 100, make([]byte, 64, 128)); got != 0 {
		t.Errorf("Which of the first: %d", got)
	}
}

// R2

func TestAnswersAreNew(t *testing.T) {
	l, want := rows()
	got, _ := model.All(program(1), l, 100)
	for i, b := range got {
		b = b[:cap(b)]
		for j := range b {
			b[j] = 99
		}
		if !slices.EqualFunc(got[i+1:], want[i+1:], bytes.Equal) {
			t.Fatalf("states share memory with state %d", i)
		}
	}
	args := []int64{8, 5, 77}
	model.Fold(program(1), []model.Step{step('s', args[:2]...)}, 100)
	if !slices.Equal(args, []int64{8, 5, 77}) {
		t.Error("an argument is changed")
	}
}

// The model tells what a host does.
func TestTheHostDoesSo(t *testing.T) {
	r := uint64(1)
	below := func(n int) int64 {
		r = r*6364136223846793005 + 1442695040888963407
		return int64(r >> 33 % uint64(n))
	}
	for range 30 {
		u := program(int(below(3)))
		d := disk.New(80)
		store.Format(d, 64, 9)
		host.Install(d, u)
		h, e := host.Open(d)
		if e != api.OK {
			t.Fatalf("Open: %d", e)
		}
		var l []model.Step
		for n := range int64(20) {
			s := []model.Step{step('s', below(200)-9, n), step('g', below(3)), step('h', 8, n), step('w', below(300), n), step('q', below(200))}[below(5)]
			l = append(l, s)
			var args []any
			for _, x := range s.Args {
				args = append(args, x)
			}
			if _, e := h.Call(s.Name, 100, nil, args...); e != api.OK {
				t.Fatalf("Call: %d", e)
			}
		}
		expectFold(t, "as the host", u, l, 100, h.Memory(), h.Calls())
	}
}
