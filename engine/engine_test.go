package engine_test

import (
	"bytes"
	"math"
	"slices"
	"strconv"
	"strings"
	"testing"

	"engram/api"
	"engram/cells"
	"engram/engine"
	"engram/reply"
	"engram/unit"
)

func fn(name rune, args int, code string) api.Func {
	return api.Func{Name: name, Args: args, Code: code}
}

// of is a unit of function m, of as many args as are told, and others.
func of(args int, code string, others ...api.Func) api.Unit {
	return api.Unit{Funcs: append([]api.Func{fn('m', args, code)}, others...)}
}

// sameResult holds all of two Results against each other.
func sameResult(a, b api.Result) bool {
	return a.Value == b.Value && a.Trap == b.Trap && a.Fuel == b.Fuel && slices.Equal(a.Asks, b.Asks)
}

// expectRun calls m of u on this memory with 1000 of fuel, of which so much must be spent.
func expectRun(t *testing.T, u api.Unit, m *cells.Memory, value int64, trap int, spent int64, args ...int64) {
	t.Helper()
	want := api.Result{Value: value, Trap: trap, Fuel: 1000 - spent}
	if got, e := engine.Run(u, m, reply.New(), 'm', 1000, args...); e != api.OK || !sameResult(got, want) {
		t.Errorf("%q of %v: %+v, refusal %d, not %+v", u.Funcs[0].Code, args, got, e, want)
	}
}

func expectCode(t *testing.T, code string, value int64, trap int, spent int64, args ...int64) {
	t.Helper()
	expectRun(t, of(len(args), code), cells.New(1, 3), value, trap, spent, args...)
}

func expectRefused(t *testing.T, what string, want api.Errno, got api.Result, e api.Errno) {
	t.Helper()
	if e != want || !sameResult(got, api.Result{}) {
		t.Errorf("%s: %+v, refusal %d, not %d", what, got, e, want)
	}
}

// P14.1: what Run refuses

func TestRefusals(t *testing.T) {
	u, m, r := of(1, "a", fn('x', 0, "1")), cells.New(1, 1), reply.New()
	bad := api.Unit{Pages: 1}
	run := func(what string, want api.Errno, u api.Unit, m *cells.Memory, r *reply.Row, name rune, fuel int64, args ...int64) {
		t.Helper()
		got, e := engine.Run(u, m, r, name, fuel, args...)
		expectRefused(t, what, want, got, e)
	}
	run("no memory", api.ErrArg, u, nil, r, 'm', 9, 1)
	run("no Row", api.ErrArg, u, m, nil, 'm', 9, 1)
	for _, fuel := range []int64{-1, math.MinInt64, 1<<20 + 1, math.MaxInt64, 1 << 32, -1 << 32} {
		run("fuel", api.ErrArg, u, m, r, 'm', fuel, 1)
		run("fuel ahead of Right", api.ErrArg, bad, m, r, 'm', fuel, 1)
	}
	run("no memory ahead of Right", api.ErrArg, bad, nil, r, 'm', 9)
	run("no Row ahead of Right", api.ErrArg, bad, m, nil, 'm', 9)
	run("size", api.ErrSize, bad, m, r, 'm', 9)
	run("length", api.ErrLong, api.Unit{Funcs: make([]api.Func, 33)}, m, r, 'm', 9)
	run("form", api.ErrForm, of(5, "1"), m, r, 'm', 9)
	run("nest", api.ErrNest, of(0, "?"), m, r, 'm', 9)
	run("stack", api.ErrStack, of(0, "1 2"), m, r, 'm', 9)
	run("dead", api.ErrDead, of(0, "¡1"), m, r, 'm', 9)
	run("no callee", api.ErrNone, of(0, "λz"), m, r, 'm', 9)
	run("another function is not right", api.ErrStack, of(0, "1", fn('x', 0, "")), m, r, 'm', 9)
	run("Right ahead of the name", api.ErrStack, of(0, ""), m, r, 'z', 9)
	for _, name := range []rune{'a', 'z', 0, -1, 'M', math.MaxInt32} {
		run("no such function", api.ErrNone, u, m, r, name, 9, 1)
		run("no such function ahead of args", api.ErrNone, u, m, r, name, 9)
	}
	run("no function", api.ErrNone, api.Unit{}, m, r, 'm', 9)
	run("too few args", api.ErrArg, u, m, r, 'm', 9)
	run("too many args", api.ErrArg, u, m, r, 'm', 9, 1, 2)
	run("args of none", api.ErrArg, u, m, r, 'x', 9, 1)
	run("many args", api.ErrArg, u, m, r, 'm', 9, make([]int64, 1000)...)
	if len(r.Asks()) != 0 || len(m.Dirty()) != 0 {
		t.Error("a refused Run has turned something")
	}
}

func TestFuelThatIsTaken(t *testing.T) {
	for _, fuel := range []int64{0, 1, 2, 1<<20 - 1, 1 << 20} {
		got, e := engine.Run(of(0, "5"), cells.New(0, 0), reply.New(), 'm', fuel)
		want := api.Result{Value: 5, Fuel: fuel - 1}
		if fuel == 0 {
			want = api.Result{Trap: api.Fuel}
		}
		if e != api.OK || !sameResult(got, want) {
			t.Errorf("fuel %d: %+v, refusal %d", fuel, got, e)
		}
	}
}

func TestAUnitsPagesAreNotTheMemorys(t *testing.T) {
	u := of(0, "#")
	u.Pages, u.Most = 5, 6
	expectRun(t, u, cells.New(1, 3), 1, api.Done, 1)
}

// P14.1: tokens

func TestNumbersAndLocals(t *testing.T) {
	expectCode(t, "1 2+", 3, api.Done, 3)
	expectCode(t, "9223372036854775807", math.MaxInt64, api.Done, 1)
	expectCode(t, "a", 7, api.Done, 1, 7)
	expectCode(t, "a", -7, api.Done, 1, -7, 8, 9, 10)
	expectCode(t, "b", 8, api.Done, 1, 7, 8, 9, 10)
	expectCode(t, "c", 9, api.Done, 1, 7, 8, 9, 10)
	expectCode(t, "d", 10, api.Done, 1, 7, 8, 9, 10)
	expectCode(t, "e", 0, api.Done, 1, 7, 8, 9, 10)
	expectCode(t, "z", 0, api.Done, 1, 7, 8, 9, 10)
	expectCode(t, "aA5A a", 5, api.Done, 5, 7)
	for r := 'a'; r <= 'z'; r++ {
		up := string(r - 'a' + 'A')
		expectCode(t, string(r), 0, api.Done, 1)
		expectCode(t, "6"+up+string(r), 6, api.Done, 3)
		// No other local is turned.
		for s := 'a'; s <= 'z'; s++ {
			if s != r {
				expectCode(t, "6"+up+string(s), 0, api.Done, 3)
			}
		}
	}
	expectCode(t, "1A2Z3B a100*z10*+b+", 123, api.Done, 15)
	expectCode(t, "1 2AA a", 1, api.Done, 5)
}

func TestStackSigns(t *testing.T) {
	expectCode(t, "5.*", 25, api.Done, 3)
	expectCode(t, "4 5.-+", 4, api.Done, 5)
	expectCode(t, "4 5,", 4, api.Done, 3)
	expectCode(t, "4 5 6,,", 4, api.Done, 5)
}

func TestReckoning(t *testing.T) {
	for _, c := range []struct {
		sign       string
		a, b, want int64
		trap       int
	}{
		{"+", 7, 3, 10, api.Done}, {"-", 7, 3, 4, api.Done}, {"*", 7, 3, 21, api.Done}, {"/", 7, 3, 2, api.Done}, {"%", 7, 3, 1, api.Done}, {"&", 6, 3, 2, api.Done}, {"|", 6, 3, 7, api.Done}, {"^", 6, 3, 5, api.Done},
		{"<", 3, 7, 1, api.Done}, {"<", 7, 3, 0, api.Done}, {"=", 3, 3, 1, api.Done}, {"=", 3, 7, 0, api.Done}, {"«", 3, 2, 12, api.Done}, {"»", -9, 1, -5, api.Done}, {"+", math.MaxInt64, 1, math.MinInt64, api.Done},
		{"/", 7, 0, 0, api.DivZero}, {"%", 7, 0, 0, api.DivZero}, {"/", math.MinInt64, -1, 0, api.Over}, {"%", math.MinInt64, -1, 0, api.Done},
	} {
		expectCode(t, "a b"+c.sign, c.want, c.trap, 3, c.a, c.b)
		expectCode(t, "9a b"+c.sign+"+", c.want+9*boolean(c.trap == api.Done), c.trap, 4+boolean(c.trap == api.Done), c.a, c.b)
	}
	expectCode(t, "a!", 1, api.Done, 2, 0)
	expectCode(t, "a!", 0, api.Done, 2, 5)
	expectCode(t, "8a!-", 7, api.Done, 4, 0) // what lies below is not asked
}

func boolean(b bool) int64 {
	if b {
		return 1
	}
	return 0
}

func TestMemory(t *testing.T) {
	const wide = 0x0123456789abcdef
	expectCode(t, "8a$8@", wide, api.Done, 5, wide)
	expectCode(t, "8a$8©", 0xef, api.Done, 5, wide)
	expectCode(t, "8a$9©", 0xcd, api.Done, 5, wide)
	expectCode(t, "8a$15©", 0x01, api.Done, 5, wide)
	expectCode(t, "8a®8@", 0xef, api.Done, 5, wide)
	expectCode(t, "8a®8©", 0xef, api.Done, 5, wide)
	expectCode(t, "8a$9@", 0x000123456789abcd, api.Done, 5, wide)
	expectCode(t, "8a$8@", math.MinInt64, api.Done, 5, math.MinInt64)
	expectCode(t, "8a®8©", 255, api.Done, 5, -1)
	expectCode(t, "56@", 0, api.Done, 2)
	expectCode(t, "63©", 0, api.Done, 2)
	expectCode(t, "56 1$63 2®5", 5, api.Done, 7)
	for _, at := range []int64{57, 63, 64, -1, -8, math.MinInt64, math.MaxInt64} {
		expectCode(t, "a@", 0, api.Bounds, 2, at)
		expectCode(t, "a b$1", 0, api.Bounds, 3, at, 5)
	}
	for _, at := range []int64{64, 65, -1, math.MinInt64, math.MaxInt64} {
		expectCode(t, "a©", 0, api.Bounds, 2, at)
		expectCode(t, "a b®1", 0, api.Bounds, 3, at, 5)
	}
}

func TestPages(t *testing.T) {
	expectCode(t, "#", 1, api.Done, 1)
	expectCode(t, "1¤", 1, api.Done, 2)
	expectCode(t, "1¤,#", 2, api.Done, 4)
	expectCode(t, "2¤,#", 3, api.Done, 4)
	expectCode(t, "3¤", -1, api.Done, 2)
	expectCode(t, "3¤,#", 1, api.Done, 4)
	expectCode(t, "0¤", 1, api.Done, 2)
	expectCode(t, "a¤", -1, api.Done, 2, -1)
	expectCode(t, "a¤", -1, api.Done, 2, math.MaxInt64)
	expectCode(t, "1¤,64 5$64@", 5, api.Done, 8)
	m := cells.New(1, 3)
	expectRun(t, of(0, "1¤,64 5$64@"), m, 5, api.Done, 8)
	expectRun(t, of(0, "64@#+"), m, 7, api.Done, 4) // the same memory goes on
	if m.Pages() != 2 || !slices.Equal(m.Dirty(), []int{1}) {
		t.Errorf("%d pages, dirty %v", m.Pages(), m.Dirty())
	}
}

func TestIfs(t *testing.T) {
	for _, c := range []struct {
		code           string
		a, want, spent int64
	}{
		{"a?2:3;", 1, 2, 5}, {"a?2:3;", 0, 3, 4}, {"a?2:3;", -1, 2, 5}, {"a?2:3;", math.MinInt64, 2, 5},
		{"a?6B;b", 1, 6, 6}, {"a?6B;b", 0, 0, 4},
		{"a?:6B;b", 1, 0, 5}, {"a?:6B;b", 0, 6, 6},
		{"a?6B:7B;b", 1, 6, 7}, {"a?6B:7B;b", 0, 7, 6},
		{"a?;5", 1, 5, 4}, {"a?;5", 0, 5, 4}, {"a?:;5", 1, 5, 5}, {"a?:;5", 0, 5, 4},
		{"a?a1=?10:20;:30;", 1, 10, 11}, {"a?a1=?10:20;:30;", 2, 20, 10}, {"a?a1=?10:20;:30;", 0, 30, 4},
		{"5a?1:2;+", 3, 6, 7}, {"5a?1:2;+", 0, 7, 6},
	} {
		expectCode(t, c.code, c.want, api.Done, c.spent, c.a)
	}
}

func TestLoops(t *testing.T) {
	expectCode(t, "[~]5", 5, api.Done, 3)
	expectCode(t, "[a!?~;a1-A b2+B]b", 10, api.Done, 5*14+6, 5)
	expectCode(t, "[a!?~;a1-A b2+B]b", 0, api.Done, 6, 0)
	// The inner ~ leaves the inner loop alone.
	expectCode(t, "[a!?~;a1-A 3C[c!?~;c1-C b1+B]]b", 6, api.Done, 2*(11+3*14+5+1)+6, 2)
	expectCode(t, "[]", 0, api.Fuel, 1000)
	expectCode(t, "[1,]", 0, api.Fuel, 1000)
	expectCode(t, "9[a?~:~;]", 9, api.Done, 5, 1)
	expectCode(t, "9[a?~:~;]", 9, api.Done, 5, 0)
}

func TestHalt(t *testing.T) {
	expectCode(t, "¡", 0, api.Halt, 1)
	expectCode(t, "1 2¡", 0, api.Halt, 3)
	expectCode(t, "a?¡;6", 0, api.Halt, 3, 1)
	expectCode(t, "a?¡;6", 6, api.Done, 4, 0)
	expectCode(t, "a?¡:6;", 6, api.Done, 4, 0)
	expectCode(t, "a?6:¡;", 6, api.Done, 5, 1)
	expectCode(t, "a?6:¡;", 0, api.Halt, 3, 0)
}

// P14.1: calls

func TestCalls(t *testing.T) {
	expectRun(t, of(0, "λx", fn('x', 0, "7")), cells.New(0, 0), 7, api.Done, 2)
	order := fn('x', 4, "a1000*b100*+c10*+d+")
	expectRun(t, of(0, "1 2 3 4λx", order), cells.New(0, 0), 1234, api.Done, 5+13)
	expectRun(t, of(0, "9 1 2 3 4λx-", order), cells.New(0, 0), 9-1234, api.Done, 7+13)
	expectRun(t, of(2, "aλx bλx-", fn('x', 1, "a3*")), cells.New(0, 0), 21, api.Done, 11, 10, 3)
	// Locals are a call's own.
	expectRun(t, of(1, "5B aλx b+a+", fn('x', 1, "8A9B a b+")), cells.New(0, 0), 17+5+3, api.Done, 8+7, 3)
	expectRun(t, of(0, "λx,λx", fn('x', 0, "a.1+A")), cells.New(0, 0), 0, api.Done, 3+10)
	expectRun(t, of(0, "λ中!", fn('中', 0, "1")), cells.New(0, 0), 0, api.Done, 3)
}

func TestTrapsInCallsEndAll(t *testing.T) {
	for _, c := range []struct {
		code string
		trap int
		n    int64
	}{{"¡", api.Halt, 1}, {"1 0/", api.DivZero, 3}, {"99@", api.Bounds, 2}, {"[]", api.Fuel, 998}, {"λx", api.Deep, 30}} {
		expectRun(t, of(0, "1λy+", fn('y', 0, "λx"), fn('x', 0, c.code)), cells.New(1, 1), 0, c.trap, min(3+c.n, 1000))
	}
}

func TestDeep(t *testing.T) {
	// m and n calls of x lie in each other.
	u := of(1, "aλx", fn('x', 1, "a?a1-λx1+:0;"))
	expectRun(t, u, cells.New(0, 0), 30, api.Done, 2+30*10+4, 30)
	expectRun(t, u, cells.New(0, 0), 0, api.Deep, 2+31*6, 31)
	expectRun(t, of(0, "λm"), cells.New(0, 0), 0, api.Deep, 32)
	expectRun(t, of(0, "1λm+"), cells.New(0, 0), 0, api.Deep, 64)
	// As many calls one behind the other are none too many.
	expectRun(t, of(0, strings.Repeat("λx,", 100)+"λx", fn('x', 0, "1")), cells.New(0, 0), 1, api.Done, 302)
	// Fuel comes ahead of it.
	got, _ := engine.Run(of(0, "λm"), cells.New(0, 0), reply.New(), 'm', 31)
	if got.Trap != api.Fuel || got.Fuel != 0 {
		t.Errorf("31 calls: %+v", got)
	}
	got, _ = engine.Run(of(0, "λm"), cells.New(0, 0), reply.New(), 'm', 32)
	if got.Trap != api.Deep || got.Fuel != 0 {
		t.Errorf("32 calls: %+v", got)
	}
}

// 31 calls of x lie in each other, with 61 to 64 values each.
func TestTheGreatestStack(t *testing.T) {
	u := of(0, "1 30λx", fn('x', 2, strings.Repeat("a", 61)+"b?a b1-λx:a;"+strings.Repeat("+", 61)))
	want := int64(31*61 + 1)
	if got, e := engine.Run(u, cells.New(0, 0), reply.New(), 'm', 1<<20); e != api.OK || got.Trap != api.Done || got.Value != want {
		t.Errorf("%+v, refusal %d, not %d", got, e, want)
	}
}

// P14.1: the host

func TestAsks(t *testing.T) {
	u := of(0, "3πa 4πb*5π中+")
	r := reply.New(10, "abc", true)
	got, e := engine.Run(u, cells.New(0, 0), r, 'm', 100)
	want := api.Result{Value: 31, Fuel: 92, Asks: []api.Ask{{Name: 'a', Value: 3}, {Name: 'b', Value: 4}, {Name: '中', Value: 5}}}
	if e != api.OK || !sameResult(got, want) {
		t.Errorf("%+v, refusal %d, not %+v", got, e, want)
	}
	// Another Run with the same Row: its answers are used up, its Asks go on, this Run's are told alone.
	want.Value = 0
	if got, _ = engine.Run(u, cells.New(0, 0), r, 'm', 100); !sameResult(got, want) {
		t.Errorf("a second Run: %+v, not %+v", got, want)
	}
	if len(r.Asks()) != 6 {
		t.Errorf("the Row's Asks are %v", r.Asks())
	}
	if got, _ = engine.Run(of(0, "1"), cells.New(0, 0), r, 'm', 100); len(got.Asks) != 0 {
		t.Errorf("Asks of a Run that asks nothing: %v", got.Asks)
	}
}

func TestAsksBesideATrap(t *testing.T) {
	for _, c := range []struct {
		code string
		row  *reply.Row
		trap int
		left int64
		asks int64
	}{
		{"1πx", reply.New(1.5), api.Refused, 98, 1}, {"1πx2πx+", reply.New(1.5), api.Refused, 98, 1}, {"1πx,2πx", reply.New(7, nil), api.Refused, 95, 2}, {"1πx,2πx¡", reply.New(7, 8), api.Halt, 94, 2},
		{"1πx,2πx99@+", reply.New(7), api.Bounds, 93, 2},
	} {
		got, e := engine.Run(of(0, c.code), cells.New(0, 0), c.row, 'm', 100)
		want := api.Result{Trap: c.trap, Fuel: c.left}
		for i := range c.asks {
			want.Asks = append(want.Asks, api.Ask{Name: 'x', Value: i + 1})
		}
		if e != api.OK || !sameResult(got, want) {
			t.Errorf("%q: %+v, refusal %d, not %+v", c.code, got, e, want)
		}
	}
}

// P14.2

func TestEachFuel(t *testing.T) {
	u := of(1, "[a!?~;aλx b+B a1-A]bπy,b", fn('x', 1, "a?a.*:¡;"))
	full, e := engine.Run(u, cells.New(0, 0), reply.New(), 'm', 1000, 4)
	if e != api.OK || full.Trap != api.Done || full.Value != 30 {
		t.Fatalf("%+v, refusal %d", full, e)
	}
	spent := 1000 - full.Fuel
	for fuel := range spent + 10 {
		got, _ := engine.Run(u, cells.New(0, 0), reply.New(), 'm', fuel, 4)
		want := api.Result{Trap: api.Fuel}
		if fuel >= spent {
			want = api.Result{Value: 30, Fuel: fuel - spent}
		}
		if fuel >= spent-2 {
			want.Asks = []api.Ask{{Name: 'y', Value: 30}}
		}
		if !sameResult(got, want) {
			t.Errorf("fuel %d of %d: %+v, not %+v", fuel, spent, got, want)
		}
	}
}

func TestWhatATrapLeavesStays(t *testing.T) {
	for _, c := range []struct {
		code string
		trap int
	}{{"8 5$1¤,¡", api.Halt}, {"8 5$1¤0/", api.DivZero}, {"8 5$1¤,500 6$1", api.Bounds}, {"8 5$1¤[]", api.Fuel}, {"#1=?8 5$1¤,;λm", api.Deep}} {
		m := cells.New(1, 2)
		got, e := engine.Run(of(0, c.code), m, reply.New(), 'm', 200)
		if n, _ := m.Load(8, true); e != api.OK || got.Trap != c.trap || got.Value != 0 || n != 5 || m.Pages() != 2 {
			t.Errorf("%q: %+v, refusal %d, %d pages, %d", c.code, got, e, m.Pages(), n)
		}
	}
}

func TestALongRunEnds(t *testing.T) {
	u := of(0, "[a1+A]")
	got, e := engine.Run(u, cells.New(0, 0), reply.New(), 'm', api.MaxFuel)
	if e != api.OK || !sameResult(got, api.Result{Trap: api.Fuel}) {
		t.Errorf("%+v, refusal %d", got, e)
	}
}

// R2

func TestWhatIsHandedInStays(t *testing.T) {
	args := []int64{1, 2, 77, 78}
	u := of(2, "8A9B a b+πx", fn('x', 0, "1"), fn('y', 0, "("))
	u.Funcs = u.Funcs[:2]
	funcs := slices.Clone(u.Funcs[:3])
	r := reply.New()
	got, e := engine.Run(u, cells.New(1, 1), r, 'm', 100, args[:2]...)
	if e != api.OK || !slices.Equal(args, []int64{1, 2, 77, 78}) || !slices.Equal(u.Funcs[:3], funcs) {
		t.Errorf("refusal %d, args %v", e, args)
	}
	asks := got.Asks[:cap(got.Asks)]
	for i := range asks {
		asks[i] = api.Ask{}
	}
	if !slices.Equal(r.Asks(), []api.Ask{{Name: 'x', Value: 17}}) {
		t.Errorf("the Asks are shared: %v", r.Asks())
	}
}

// walk runs codes by their parts, ifs and loops as Go's own: a second way to the same.
type walk struct {
	u      api.Unit
	memory []byte
	most   int
	asks   []api.Ask
	fuel   int64
	depth  int
}

type trapped struct{ trap int }

type frame struct {
	code   []rune
	at     int
	stack  []int64
	locals [26]int64
}

func (w *walk) result(k int, args []int64) (r api.Result) {
	defer func() {
		if p, ok := recover().(trapped); ok {
			r = api.Result{Trap: p.trap, Fuel: w.fuel, Asks: w.asks}
		}
	}()
	v := w.function(k, args)
	return api.Result{Value: v, Fuel: w.fuel, Asks: w.asks}
}

func (w *walk) function(k int, args []int64) int64 {
	if w.depth == 32 {
		panic(trapped{api.Deep})
	}
	w.depth++
	f := &frame{code: []rune(w.u.Funcs[k].Code)}
	copy(f.locals[:], args)
	w.row(f, true)
	w.depth--
	return f.stack[0]
}

func (f *frame) pop() int64 {
	n := f.stack[len(f.stack)-1]
	f.stack = f.stack[:len(f.stack)-1]
	return n
}

func (w *walk) pay(live bool) {
	if live && w.fuel == 0 {
		panic(trapped{api.Fuel})
	}
	if live {
		w.fuel--
	}
}

// row goes up to what ends it; it does what it passes only if live. It tells whether a ~ left.
func (w *walk) row(f *frame, live bool) bool {
	left := false
	for f.at < len(f.code) && !strings.ContainsRune(":;]", f.code[f.at]) {
		now := live && !left
		switch r := f.code[f.at]; r {
		case '?':
			f.at++
			w.pay(now)
			left = w.parts(f, now) || left
		case '[':
			w.loop(f, now)
		case '~':
			f.at++
			w.pay(now)
			left = left || now
		default:
			w.item(f, now)
		}
	}
	return left
}

func (w *walk) parts(f *frame, now bool) bool {
	yes := now && f.pop() != 0
	first := w.row(f, yes)
	second := false
	if f.code[f.at] == ':' {
		f.at++
		w.pay(yes && !first)
		second = w.row(f, now && !yes)
	}
	f.at++
	w.pay(now && !first && !second)
	return first || second
}

func (w *walk) loop(f *frame, now bool) {
	begin := f.at
	for {
		f.at = begin + 1
		w.pay(now)
		left := w.row(f, now)
		f.at++
		w.pay(now && !left)
		if left || !now {
			return
		}
	}
}

func (w *walk) item(f *frame, now bool) {
	r := f.code[f.at]
	f.at++
	n := int64(0)
	if r >= '0' && r <= '9' {
		n = int64(r - '0')
		for f.at < len(f.code) && f.code[f.at] >= '0' && f.code[f.at] <= '9' {
			n = n*10 + int64(f.code[f.at]-'0')
			f.at++
		}
		r = '0'
	}
	name := rune(0)
	if r == 'λ' || r == 'π' {
		name = f.code[f.at]
		f.at++
	}
	if r == ' ' || !now {
		return
	}
	w.pay(true)
	w.do(f, r, n, name)
}

func (w *walk) do(f *frame, r rune, n int64, name rune) {
	push := func(n int64) { f.stack = append(f.stack, n) }
	switch {
	case r == '0':
		push(n)
	case r >= 'a' && r <= 'z':
		push(f.locals[r-'a'])
	case r >= 'A' && r <= 'Z':
		f.locals[r-'A'] = f.pop()
	case r == '.':
		n := f.pop()
		push(n)
		push(n)
	case r == ',':
		f.pop()
	case r == '!':
		push(boolean(f.pop() == 0))
	case r == '¡':
		panic(trapped{api.Halt})
	case strings.ContainsRune("#¤@©$®", r):
		w.remember(f, r)
	case r == 'π':
		w.asks = append(w.asks, api.Ask{Name: name, Value: f.pop()})
		if len(w.asks) == 5 {
			panic(trapped{api.Refused})
		}
		push(int64(len(w.asks)) * 3)
	case r == 'λ':
		k := slices.IndexFunc(w.u.Funcs, func(g api.Func) bool { return g.Name == name })
		first := len(f.stack) - w.u.Funcs[k].Args
		args := slices.Clone(f.stack[first:])
		f.stack = f.stack[:first]
		push(w.function(k, args))
	default:
		b := f.pop()
		push(reckon(r, f.pop(), b))
	}
}

func (w *walk) remember(f *frame, r rune) {
	size := 1
	if r == '@' || r == '$' {
		size = 8
	}
	within := func(at int64) int {
		if at < 0 || at > int64(len(w.memory)) || int(at)+size > len(w.memory) {
			panic(trapped{api.Bounds})
		}
		return int(at)
	}
	switch r {
	case '#':
		f.stack = append(f.stack, int64(len(w.memory)/64))
	case '¤':
		n, pages := f.pop(), len(w.memory)/64
		if n < 0 || n > 64 || pages+int(n) > w.most {
			f.stack = append(f.stack, -1)
			return
		}
		w.memory = append(w.memory, make([]byte, 64*n)...)
		f.stack = append(f.stack, int64(pages))
	case '@', '©':
		at, n := within(f.pop()), uint64(0)
		for i := range size {
			n |= uint64(w.memory[at+i]) << (8 * i)
		}
		f.stack = append(f.stack, int64(n))
	case '$', '®':
		n := f.pop()
		at := within(f.pop())
		for i := range size {
			w.memory[at+i] = byte(n >> (8 * i))
		}
	}
}

func reckon(r rune, a, b int64) int64 {
	switch r {
	case '+':
		return a + b
	case '-':
		return a - b
	case '*':
		return a * b
	case '&':
		return a & b
	case '|':
		return a | b
	case '^':
		return a ^ b
	case '<':
		return boolean(a < b)
	case '=':
		return boolean(a == b)
	case '«':
		return a << (uint64(b) % 64)
	case '»':
		return a >> (uint64(b) % 64)
	}
	if b == 0 {
		panic(trapped{api.DivZero})
	}
	if r == '%' {
		return a % b
	}
	if a == math.MinInt64 && b == -1 {
		panic(trapped{api.Over})
	}
	return a / b
}

// answers are those that walk gives: the fifth is none.
func answers() []any {
	return []any{3, 6, 9, 12, nil}
}

// writer writes codes that are right.
type writer struct {
	state uint32
	code  []rune
	calls []api.Func // what may be called
}

// pick is one of so many numbers.
func (w *writer) pick(n int) int {
	w.state = w.state*1664525 + 1013904223
	return int(w.state>>16) % n
}

func (w *writer) add(s string) { w.code = append(w.code, []rune(s)...) }

// row writes items that bring the height from h to want, and take nothing below base.
func (w *writer) row(base, h, want, deep int, loop int) {
	for n := w.pick(7); n > 0; n-- {
		h = w.item(base, h, deep, loop)
	}
	for h > want {
		w.add(",")
		h--
	}
	for h < want {
		w.add(string(rune('a' + w.pick(5))))
		h++
	}
}

func (w *writer) item(base, h, deep, loop int) int {
	own := h - base
	switch k := w.pick(15); {
	case h > 20:
		w.add(",")
		return h - 1
	case k < 1 && deep > 0:
		w.add(strconv.Itoa(w.pick(2)) + " a^?")
		end := h
		half := w.pick(2) == 0
		if half {
			end = h + w.pick(3)
		}
		w.row(h, h, end, deep-1, loop)
		if half {
			w.add(":")
			w.row(h, h, end, deep-1, loop)
		}
		w.add(";")
		return end
	case k < 2 && deep > 0:
		w.add("[")
		w.row(h, h, h, deep-1, h)
		w.add("e1+E e" + strconv.Itoa(w.pick(6)) + "<!?~;]")
		return h
	case k < 3 && loop == h:
		w.add("b" + strconv.Itoa(w.pick(3)) + "=?~;")
		return h
	case k < 4 && len(w.calls) > 0:
		f := w.calls[w.pick(len(w.calls))]
		if f.Args <= own {
			w.add("λ" + string(f.Name))
			return h - f.Args + 1
		}
		return h
	case k < 5:
		w.add(string(rune('A' + w.pick(5))))
		if own < 1 {
			w.code = w.code[:len(w.code)-1]
			return h
		}
		return h - 1
	case k < 7 && own >= 1:
		w.add([]string{"!", "@", "©", "¤", "πx", "πλ", "63&", "7&¤"}[w.pick(8)])
		return h
	case k < 10 && own >= 2:
		w.add(string([]rune("+-*/%&|^<=«»")[w.pick(12)]))
		return h - 1
	case k < 11 && own >= 2:
		w.add([]string{"$", "®", "S63&s$", "S127&s®"}[w.pick(4)])
		return h - 2
	case k < 12 && own >= 1:
		w.add(".")
		return h + 1
	case k < 13:
		w.add([]string{" " + strconv.Itoa(w.pick(200)) + " ", "#", " 9223372036854775807 ", " 0 1-"}[w.pick(4)])
		return h + 1
	case k < 14 && w.pick(40) == 0:
		w.add(" 1?¡;")
		return h
	}
	w.add(string(rune('a' + w.pick(5))))
	return h + 1
}

func (w *writer) unit() api.Unit {
	u := api.Unit{}
	w.calls = nil
	for _, name := range []rune("fgλm") {
		f := fn(name, w.pick(5), "")
		if w.pick(3) == 0 {
			w.calls = append(w.calls, f) // it may call itself
		}
		w.code = w.code[:0]
		w.row(0, 0, 1, 3, -1)
		f.Code = string(w.code)
		u.Funcs = append(u.Funcs, f)
		w.calls = append(w.calls, f)
	}
	return u
}

// W5: a code that is taken never goes wrong, and does what its parts say.
func TestManyPrograms(t *testing.T) {
	w := writer{state: 5}
	traps, ran := map[int]int{}, 0
	for range 20000 {
		u := w.unit()
		if unit.Right(u) != api.OK {
			continue // too long
		}
		ran++
		k := len(u.Funcs) - 1
		var args []int64
		for range u.Funcs[k].Args {
			args = append(args, int64(w.pick(20))-3)
		}
		fuel := int64(w.pick(3000))
		m := cells.New(1, 3)
		got, e := engine.Run(u, m, reply.New(answers()...), 'm', fuel, args...)
		second := &walk{u: u, memory: make([]byte, 64), most: 3, fuel: fuel}
		want := second.result(k, args)
		if e != api.OK || !sameResult(got, want) || !bytes.Equal(m.Bytes(), second.memory) {
			t.Fatalf("%v of %v: %+v, refusal %d, not %+v", u, args, got, e, want)
		}
		traps[got.Trap]++
	}
	for trap := api.Done; trap <= api.Refused; trap++ {
		if traps[trap] == 0 && trap != api.Over {
			t.Errorf("no program ends by %d: %v", trap, traps)
		}
	}
	if ran < 10000 {
		t.Errorf("no more than %d programs ran", ran)
	}
}

// Each short code that is taken ends.
func TestEachShortCode(t *testing.T) {
	signs := []string{"1 ", "a", "A", "+", "/", ".", ",", "?", ":", ";", "[", "]", "~", "¡", "λm", "πx", "@", "$"}
	taken := 0
	var fill func(code string, n int)
	fill = func(code string, n int) {
		u := of(0, code)
		if unit.Right(u) == api.OK {
			taken++
			got, e := engine.Run(u, cells.New(1, 1), reply.New(answers()...), 'm', 200)
			m := &walk{u: u, memory: make([]byte, 64), most: 1, fuel: 200}
			if want := m.result(0, nil); e != api.OK || !sameResult(got, want) {
				t.Errorf("%q: %+v, refusal %d, not %+v", code, got, e, want)
			}
		}
		if n == 0 {
			return
		}
		for _, s := range signs {
			fill(code+s, n-1)
		}
	}
	fill("", 5)
	if taken < 1000 {
		t.Errorf("no more than %d codes are taken", taken)
	}
}
