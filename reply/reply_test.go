package reply_test

import (
	"errors"
	"math"
	"slices"
	"strings"
	"testing"

	"engram/api"
	"engram/reply"
)

type (
	ownInt    int
	ownWide   int64
	ownBool   bool
	ownRune   rune
	ownString string
	ownList   []any
)

// has are values that have a number.
func has() map[int64][]any {
	return map[int64][]any{
		math.MinInt64: {math.MinInt64, int64(math.MinInt64)},
		math.MaxInt64: {math.MaxInt64, int64(math.MaxInt64)},
		math.MinInt32: {rune(math.MinInt32), math.MinInt32},
		math.MaxInt32: {rune(math.MaxInt32)},
		-1:            {-1, int64(-1), rune(-1)},
		0:             {0, int64(0), false, rune(0), "", []any{}, []any(nil)},
		1:             {1, int64(1), true, rune(1), "x", "λ", "\U0010FFFF", "\xff", "\x00", []any{nil}, []any{[]any{1, 2}}},
		2:             {2, "ab", "λπ", "é1", "\xff\xfe", "\xce1", "a\u0301", []any{1.5, "x"}, []any{nil, nil}},
		3:             {"\xed\xa0\x80", "中中中", "a\xffb", []any{1, 2, 3}},
		'λ':           {'λ', 0x3BB},
		1000:          {strings.Repeat("λ", 1000), make([]any, 1000)},
		5:             {"a b\nc", append([]any{1, 2, 3, 4, 5}, 6)[:5]},
	}
}

// hasNot are values that have none.
func hasNot() []any {
	n, s := 5, "x"
	return []any{
		nil, 1.5, 1.0, float32(1), complex(1, 0), int8(1), int16(1), uint(1), uint8(1), uint16(1), uint32(1), uint64(1), uintptr(1),
		[]int{1}, []int64{1}, []string{"x"}, []byte("x"), []rune("x"), [1]any{1}, map[string]any{}, struct{}{}, &n, &s, func() int { return 1 }, make(chan int), errors.New("x"), api.ErrArg,
		ownInt(1), ownWide(1), ownBool(true), ownRune(1), ownString("x"), ownList{1}, api.Token{}, (*int)(nil), (error)(nil), &[]any{1}, math.NaN(),
	}
}

// P12.1: Of, Must

func TestOf(t *testing.T) {
	for want, l := range has() {
		for i, v := range l {
			if n, ok := reply.Of(v); n != want || !ok {
				t.Errorf("Of case %d of %d is %d, %v", i, want, n, ok)
			}
			if n := reply.Must(v); n != want {
				t.Errorf("Must case %d of %d is %d", i, want, n)
			}
		}
	}
}

func TestOfOthers(t *testing.T) {
	for i, v := range hasNot() {
		if n, ok := reply.Of(v); n != 0 || ok {
			t.Errorf("Of(%T), case %d, is %d, %v", v, i, n, ok)
		}
		if n := reply.Must(v); n != -1 {
			t.Errorf("Must(%T), case %d, is %d", v, i, n)
		}
	}
}

// P12.1: All

func expectAll(t *testing.T, l []any, ok bool, want ...int64) {
	t.Helper()
	if got, is := reply.All(l...); !slices.Equal(got, want) || is != ok {
		t.Errorf("All(%v) is %v, %v", l, got, is)
	}
}

func TestAll(t *testing.T) {
	expectAll(t, nil, true)
	expectAll(t, []any{}, true)
	expectAll(t, []any{5}, true, 5)
	expectAll(t, []any{1, int64(-2), true, 'c', "four", []any{1, 2, 3, 4, 5}, false}, true, 1, -2, 1, 99, 4, 5, 0)
	expectAll(t, []any{[]any{1.5}, "", nil}, false)
	expectAll(t, []any{"ab", 5, 1.5}[:2], true, 2, 5)
	for want, l := range has() {
		all := make([]int64, len(l))
		for i := range all {
			all[i] = want
		}
		expectAll(t, l, true, all...)
	}
	for _, v := range hasNot() {
		expectAll(t, []any{v}, false)
		expectAll(t, []any{v, 1, 2}, false)
		expectAll(t, []any{1, v, 2}, false)
		expectAll(t, []any{1, 2, v}, false)
	}
	many := make([]any, 300)
	for i := range many {
		many[i] = i
	}
	if got, ok := reply.All(many...); !ok || len(got) != 300 || got[299] != 299 || got[64] != 64 {
		t.Errorf("All of 300 is %v, %v", got, ok)
	}
}

// P12.2

func expectAsk(t *testing.T, r *reply.Row, name rune, n, want int64, ok bool) {
	t.Helper()
	if got, is := r.Ask(name, n); got != want || is != ok {
		t.Errorf("Ask(%q, %d) is %d, %v, not %d, %v", name, n, got, is, want, ok)
	}
}

func expectAsks(t *testing.T, r *reply.Row, want ...api.Ask) {
	t.Helper()
	if got := r.Asks(); !slices.Equal(got, want) {
		t.Errorf("Asks are %v, not %v", got, want)
	}
}

func TestRow(t *testing.T) {
	r := reply.New(5, "ab", true, 1.5, 'x', nil, []any{1, 2, 3}, int64(-9))
	expectAsks(t, r)
	expectAsk(t, r, 'a', 1, 5, true)
	expectAsk(t, r, 'b', -2, 2, true)
	expectAsks(t, r, api.Ask{Name: 'a', Value: 1}, api.Ask{Name: 'b', Value: -2})
	expectAsk(t, r, 'b', 0, 1, true)
	expectAsk(t, r, '中', math.MinInt64, 0, false) // 1.5 is used up
	expectAsk(t, r, 0, math.MaxInt64, 'x', true)
	expectAsk(t, r, -1, 7, 0, false)
	expectAsk(t, r, 'a', 8, 3, true)
	expectAsk(t, r, 'a', 9, -9, true)
	expectAsk(t, r, 'a', 10, 0, true)
	expectAsk(t, r, 'z', 11, 0, true)
	expectAsks(t, r, api.Ask{Name: 'a', Value: 1}, api.Ask{Name: 'b', Value: -2}, api.Ask{Name: 'b'}, api.Ask{Name: '中', Value: math.MinInt64}, api.Ask{Value: math.MaxInt64},
		api.Ask{Name: -1, Value: 7}, api.Ask{Name: 'a', Value: 8}, api.Ask{Name: 'a', Value: 9}, api.Ask{Name: 'a', Value: 10}, api.Ask{Name: 'z', Value: 11})
}

func TestRowOfNothing(t *testing.T) {
	for _, r := range []*reply.Row{reply.New(), reply.New([]any{}...), reply.New([]any(nil)...)} {
		if r == nil {
			t.Fatal("no Row")
		}
		expectAsks(t, r)
		for i := range int64(100) {
			expectAsk(t, r, 'a', i, 0, true)
		}
		if l := r.Asks(); len(l) != 100 || l[99] != (api.Ask{Name: 'a', Value: 99}) {
			t.Errorf("Asks are %v", l)
		}
	}
	// One value that is a list is one answer.
	one := reply.New([]any([]any{[]any{7, 8, 9}})...)
	expectAsk(t, one, 'a', 0, 3, true)
	expectAsk(t, one, 'a', 0, 0, true)
}

func TestRowOfOthers(t *testing.T) {
	l := hasNot()
	r := reply.New(l...)
	for i := range l {
		expectAsk(t, r, 'a', int64(i), 0, false)
	}
	expectAsk(t, r, 'a', 0, 0, true)
}

func TestRowOfManyReplies(t *testing.T) {
	for _, n := range []int{63, 64, 65, 66, 1000} {
		l := make([]any, n)
		for i := range l {
			l[i] = i + 1
		}
		r := reply.New(l...)
		for i := range n + 5 {
			want := int64(0)
			if i < n && i < 64 {
				want = int64(i + 1)
			}
			expectAsk(t, r, 'a', int64(i), want, true)
		}
		if got := len(r.Asks()); got != n+5 {
			t.Errorf("%d Asks", got)
		}
	}
	// What has no number behind the first ones is not asked.
	l := append(make([]any, 64), 1.5, 7)
	for i := range 64 {
		l[i] = true
	}
	r := reply.New(l...)
	for range 64 {
		expectAsk(t, r, 'b', 0, 1, true)
	}
	expectAsk(t, r, 'b', 0, 0, true)
	expectAsk(t, r, 'b', 0, 0, true)
}

func TestRowsAreApart(t *testing.T) {
	l := []any{1, 2}
	a, b := reply.New(l...), reply.New(l...)
	expectAsk(t, a, 'a', 5, 1, true)
	expectAsk(t, b, 'b', 6, 1, true)
	expectAsk(t, b, 'b', 7, 2, true)
	expectAsk(t, a, 'a', 8, 2, true)
	expectAsks(t, a, api.Ask{Name: 'a', Value: 5}, api.Ask{Name: 'a', Value: 8})
	expectAsks(t, b, api.Ask{Name: 'b', Value: 6}, api.Ask{Name: 'b', Value: 7})
}

// R2

func TestWhatIsHandedInIsNotKept(t *testing.T) {
	l := []any{1, "ab", []any{1, 2, 3}}
	given := append(l, 4, 5)[:3]
	r := reply.New(given...)
	reply.All(given...)
	if given[:4][3] != 4 || given[0] != 1 || given[1] != "ab" {
		t.Error("what is handed in is changed")
	}
	given[0], given[1], given[2] = 7, 8, 9
	expectAsk(t, r, 'a', 0, 1, true)
	expectAsk(t, r, 'a', 0, 2, true)
	expectAsk(t, r, 'a', 0, 3, true)
	expectAsk(t, r, 'a', 0, 0, true)
}

func TestAnswersAreNew(t *testing.T) {
	r := reply.New(1, 2)
	for i := range int64(3) {
		r.Ask('a', i)
	}
	l := r.Asks()
	l = l[:cap(l)]
	for i := range l {
		l[i] = api.Ask{Name: 'x', Value: 99}
	}
	r.Ask('a', 3)
	expectAsks(t, r, api.Ask{Name: 'a'}, api.Ask{Name: 'a', Value: 1}, api.Ask{Name: 'a', Value: 2}, api.Ask{Name: 'a', Value: 3})
	given := []any{int64(1), int64(2)}
	n, _ := reply.All(given...)
	n[0] = 99
	expectAll(t, given, true, 1, 2)
}
