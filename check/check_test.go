package check_test

import (
	"math"
	"slices"
	"strings"
	"testing"

	"engram/api"
	"engram/check"
	"engram/glyph"
	"engram/nest"
)

// alone is a unit of one function without args.
func alone(code string) api.Unit {
	return api.Unit{Funcs: []api.Func{{Name: 'a', Code: code}}}
}

// many has functions f to j of 0 to 4 args behind its first one, and some that are not right.
func many(code string) api.Unit {
	u := alone(code)
	for i, name := range []rune("fghij") {
		u.Funcs = append(u.Funcs, api.Func{Name: name, Args: i, Code: "1"})
	}
	return api.Unit{Funcs: append(u.Funcs, api.Func{Name: 'x', Args: 5}, api.Func{Name: 'y', Args: -1}, api.Func{Name: 'x', Args: 1}, api.Func{Name: 'g', Args: 3}, api.Func{Name: '中', Args: 2})}
}

func expectHeights(t *testing.T, code string, want ...int) {
	t.Helper()
	if l, e := check.Func(many(code), 0); e != api.OK || !slices.Equal(l, want) {
		t.Errorf("Func(%.60q) is %v, refusal %d, not %v", code, l, e, want)
	}
}

func expectRefused(t *testing.T, code string, want api.Errno) {
	t.Helper()
	if l, e := check.Func(many(code), 0); e != want || len(l) != 0 {
		t.Errorf("Func(%.60q) is %v, refusal %d, not %d", code, l, e, want)
	}
}

// P9.1: Find

func TestFind(t *testing.T) {
	u := many("1")
	for _, c := range []struct {
		name rune
		want int
	}{{'a', 0}, {'f', 1}, {'g', 2}, {'j', 5}, {'x', 6}, {'y', 7}, {'中', 10}, {'b', -1}, {0, -1}, {-1, -1}, {'λ', -1}, {math.MaxInt32, -1}} {
		if got := check.Find(u, c.name); got != c.want {
			t.Errorf("Find(%q) is %d, not %d", c.name, got, c.want)
		}
	}
	if check.Find(api.Unit{}, 0) != -1 || check.Find(api.Unit{Funcs: []api.Func{}}, 'a') != -1 {
		t.Error("Find in a unit of nothing")
	}
	strange := api.Unit{Funcs: []api.Func{{Name: '+'}, {Name: -7}, {}}}
	if check.Find(strange, '+') != 0 || check.Find(strange, -7) != 1 || check.Find(strange, 0) != 2 {
		t.Error("Find of a name that may not be")
	}
	room := append([]api.Func{{Name: 'a'}}, api.Func{Name: 'b'})[:1]
	if check.Find(api.Unit{Funcs: room}, 'b') != -1 {
		t.Error("Find reads the room behind")
	}
}

// P9.1: Takes

// taken is what each sign takes and gives, by the chapter's row of kinds.
func taken() map[rune][2]int {
	m := map[rune][2]int{}
	for kind, k := range map[string][2]int{
		"0#abcdefghijklmnopqrstuvwxyz": {0, 1}, "ABCDEFGHIJKLMNOPQRSTUVWXYZ,": {1, 0}, ".": {1, 2}, "+-*/%&|^<=«»": {2, 1},
		"!@©¤π": {1, 1}, "$®": {2, 0}, "?": {1, 0}, ":;[]~¡": {0, 0},
	} {
		for _, r := range kind {
			m[r] = k
		}
	}
	return m
}

func expectTakes(t *testing.T, u api.Unit, token api.Token, takes, gives int, ok bool) {
	t.Helper()
	if a, b, c := check.Takes(u, token); a != takes || b != gives || c != ok {
		t.Errorf("Takes(%v) is %d %d %v, not %d %d %v", token, a, b, c, takes, gives, ok)
	}
}

func TestTakes(t *testing.T) {
	kinds := taken()
	for r := rune(-300); r < 70000; r++ {
		k, ok := kinds[r]
		expectTakes(t, many("1"), api.Token{Sign: r}, k[0], k[1], ok)
		expectTakes(t, api.Unit{}, api.Token{Sign: r, N: -5, Name: '('}, k[0], k[1], ok)
		// Each sign that may stand in a code is taken.
		if glyph.Known(r) && r != 'λ' && !ok {
			t.Errorf("%q is left out", r)
		}
	}
	for _, r := range []rune{math.MinInt32, math.MaxInt32, 1<<16 + 'a', 1<<24 + '+'} {
		expectTakes(t, many("1"), api.Token{Sign: r}, 0, 0, false)
	}
}

func TestTakesOfCalls(t *testing.T) {
	u := many("1")
	for i, name := range []rune("fghij") {
		expectTakes(t, u, api.Token{Sign: 'λ', Name: name}, i, 1, true)
	}
	expectTakes(t, u, api.Token{Sign: 'λ', Name: 'a', N: 4}, 0, 1, true)
	expectTakes(t, u, api.Token{Sign: 'λ', Name: '中'}, 2, 1, true)
	expectTakes(t, api.Unit{Funcs: []api.Func{{Name: '+', Args: 3}}}, api.Token{Sign: 'λ', Name: '+'}, 3, 1, true)
	for _, name := range []rune{'x', 'y', 'b', 0, -1, 'λ', math.MaxInt32} {
		expectTakes(t, u, api.Token{Sign: 'λ', Name: name}, 0, 0, false)
	}
	expectTakes(t, api.Unit{}, api.Token{Sign: 'λ'}, 0, 0, false)
	expectTakes(t, api.Unit{}, api.Token{Sign: 'λ', Name: 'a'}, 0, 0, false)
	for _, args := range []int{-1, 5, 6, 100, math.MaxInt, math.MinInt} {
		expectTakes(t, api.Unit{Funcs: []api.Func{{Name: 'a', Args: args}, {Name: 'a', Args: 1}}}, api.Token{Sign: 'λ', Name: 'a'}, 0, 0, false)
	}
}

// P9.2

func TestFuncOfNone(t *testing.T) {
	for _, k := range []int{-1, 1, 2, math.MinInt, math.MaxInt} {
		if l, e := check.Func(alone("1"), k); e != api.ErrIndex || len(l) != 0 {
			t.Errorf("Func(%d) is %v, refusal %d", k, l, e)
		}
	}
	if _, e := check.Func(api.Unit{}, 0); e != api.ErrIndex {
		t.Errorf("Func of no functions: refusal %d", e)
	}
	if _, e := check.Func(api.Unit{Funcs: make([]api.Func, 1, 9)}, 1); e != api.ErrIndex {
		t.Errorf("Func of the room behind: refusal %d", e)
	}
	u := many("(")
	for k := range u.Funcs {
		if _, e := check.Func(u, k); (e == api.OK) != (k >= 1 && k <= 5) {
			t.Errorf("Func(%d): refusal %d", k, e)
		}
	}
}

func TestRows(t *testing.T) {
	expectHeights(t, "1 2+", 0, 1, 2)
	expectHeights(t, "1", 0)
	expectHeights(t, "a", 0)
	expectHeights(t, "#", 0)
	expectHeights(t, "aA1", 0, 1, 0)
	expectHeights(t, "1.+", 0, 1, 2)
	expectHeights(t, "1 2,", 0, 1, 2)
	expectHeights(t, "1 2$3", 0, 1, 2, 0)
	expectHeights(t, "1 2®3", 0, 1, 2, 0)
	expectHeights(t, "1!@©¤πz", 0, 1, 1, 1, 1, 1)
	expectHeights(t, "1 2 3 4 5++*-", 0, 1, 2, 3, 4, 5, 4, 3, 2)
	for _, r := range "+-*/%&|^<=«»" {
		expectHeights(t, "1 2"+string(r), 0, 1, 2)
		expectRefused(t, "1"+string(r), api.ErrStack)
		expectRefused(t, "1 2 3"+string(r), api.ErrStack)
	}
	expectHeights(t, "¡", 0)
	expectHeights(t, "1 2 3¡", 0, 1, 2, 3)
}

func TestRowsThatAreTooLowOrHigh(t *testing.T) {
	for _, code := range []string{"", "+", "1+", "1 2", "1,", "1A", "A", ",", ".", "!", "@", "©", "¤", "πa", "$", "1$", "®", "1®", "1 2®", "?;1", "1.", "1 2 3+", "1 2$", "λg", "1λh", "1 2λi", "1 2 3λj", "λf1"} {
		expectRefused(t, code, api.ErrStack)
	}
}

func TestCalls(t *testing.T) {
	expectHeights(t, "λf", 0)
	expectHeights(t, "1λg", 0, 1)
	expectHeights(t, "1 2λh", 0, 1, 2)
	expectHeights(t, "1 2 3λi", 0, 1, 2, 3)
	expectHeights(t, "1 2 3 4λj", 0, 1, 2, 3, 4)
	expectHeights(t, "1 2 3λhλh", 0, 1, 2, 3, 2)
	expectHeights(t, "λa", 0)
	expectHeights(t, "1 2λ中", 0, 1, 2)
	for _, code := range []string{"λb", "1λx", "λy", "1 2λ文", "λb+", "λb¡1"} {
		expectRefused(t, code, api.ErrNone)
	}
	expectRefused(t, "1+λb+", api.ErrStack)
	expectRefused(t, "¡λb", api.ErrDead)
	// A host's call is not looked for.
	expectHeights(t, "1πb", 0, 1)
}

func TestMaxStack(t *testing.T) {
	grow := func(n int) string { return strings.Repeat("a", n) }
	down := func(n int) string { return strings.Repeat(",", n) }
	heights := func(n int) []int {
		var l []int
		for i := range n {
			l = append(l, i)
		}
		for i := n; i > 1; i-- {
			l = append(l, i)
		}
		return l
	}
	expectHeights(t, grow(64)+down(63), heights(64)...)
	expectHeights(t, grow(63)+down(62), heights(63)...)
	expectRefused(t, grow(65)+down(64), api.ErrStack)
	expectRefused(t, grow(65), api.ErrStack)
	expectRefused(t, grow(65)+"λb", api.ErrStack)
	expectRefused(t, grow(64)+"."+down(64), api.ErrStack)
	expectRefused(t, grow(64)+"λf"+down(64), api.ErrStack)
	for _, code := range []string{grow(64) + "+" + down(62), grow(64) + "!" + down(63), grow(64) + "λg" + down(63), grow(64) + "λh" + down(62), grow(63) + "." + down(63), grow(63) + "λf" + down(63), grow(64) + "?;" + down(62), grow(64) + "[~]" + down(63)} {
		if _, e := check.Func(many(code), 0); e != api.OK {
			t.Errorf("Func(%q): refusal %d", code, e)
		}
	}
	// It is all that lies there, not what lies above base.
	expectRefused(t, grow(64)+"[a,~]"+down(63), api.ErrStack)
	expectRefused(t, grow(60)+"1?"+grow(4)+"b"+down(5)+";"+down(59), api.ErrStack)
	if _, e := check.Func(many(grow(60)+"1?"+grow(4)+down(4)+";"+down(59)), 0); e != api.OK {
		t.Errorf("64 in an if: refusal %d", e)
	}
}

func TestIfs(t *testing.T) {
	expectHeights(t, "1?2:3;", 0, 1, 0, 1, 0, 1)
	expectHeights(t, "1 2?3:4;+", 0, 1, 2, 1, 2, 1, 2, 2)
	expectHeights(t, "1 2?3,;", 0, 1, 2, 1, 2, 1)
	expectHeights(t, "1 2?;", 0, 1, 2, 1)
	expectHeights(t, "1 2?:;", 0, 1, 2, 1, 1)
	expectHeights(t, "1?2 3:4 5;+", 0, 1, 0, 1, 2, 0, 1, 2, 2)
	expectHeights(t, "1?1?2:3;:4;", 0, 1, 0, 1, 0, 1, 0, 1, 1, 0, 1)
	expectHeights(t, "1?2:1?3:4;;", 0, 1, 0, 1, 0, 1, 0, 1, 0, 1, 1)
	for _, code := range []string{
		"1?2:;1", "1?:2;", "1?2:3 4;", "1?2 3:4;", "1 2?3;", "1?2;", "1 2?,;", "1 2?,:,;1", "1 2?,3;", "1 2?3:+;", "1 2?+:3;", "1?2:,;", "1 1?3:4;", "1 2?.,;", "1 2?A3:4;,",
		"1?2:3;+", "1?2:3;,", "1 2 3?+:4;", "1 2?A;1", "1?;", "1?:;",
	} {
		expectRefused(t, code, api.ErrStack)
	}
	// Behind the ; the outer base holds again.
	expectHeights(t, "1 2 3?;+", 0, 1, 2, 3, 2, 2)
	expectHeights(t, "1 2 3?4:5;,+", 0, 1, 2, 3, 2, 3, 2, 3, 3, 2)
}

func TestIfsWithDeadEnds(t *testing.T) {
	expectHeights(t, "1?¡:3;", 0, 1, 0, -1, 0, 1)
	expectHeights(t, "1?2:¡;", 0, 1, 0, 1, 0, -1)
	expectHeights(t, "1?¡:¡;", 0, 1, 0, -1, 0, -1)
	expectHeights(t, "1?¡;5", 0, 1, 0, -1, 0)
	expectHeights(t, "1?2 3¡:4;", 0, 1, 0, 1, 2, -1, 0, 1)
	expectHeights(t, "1?2 3 4:5¡;++", 0, 1, 0, 1, 2, 3, 0, 1, -1, 3, 2)
	expectHeights(t, "1?¡:1?¡:¡;;", 0, 1, 0, -1, 0, 1, 0, -1, 0, -1, -1)
	expectHeights(t, "1?1?¡:¡;:2;", 0, 1, 0, 1, 0, -1, 0, -1, -1, 0, 1)
	expectHeights(t, "1 2?¡;", 0, 1, 2, 1, -1)
	for _, code := range []string{"1?¡:¡;1", "¡1", "¡¡", "¡a", "¡[]", "¡1?;", "1?¡1;5", "1?¡:¡2;5", "1?¡[];1", "¡λb", "¡πa", "¡#", "[1?¡~;]1", "¡+"} {
		expectRefused(t, code, api.ErrDead)
	}
	for _, code := range []string{"1?¡:3 4;", "1?¡:;", "1?¡;", "1?2 3:¡;", "1?¡:3;+"} {
		expectRefused(t, code, api.ErrStack)
	}
}

func TestLoops(t *testing.T) {
	expectHeights(t, "[~]1", 0, 0, -1, 0)
	expectHeights(t, "1[~]", 0, 1, 1, -1)
	expectHeights(t, "[]", 0, 0)
	expectHeights(t, "1 2[]", 0, 1, 2, 2)
	expectHeights(t, "[1?~;]5", 0, 0, 1, 0, -1, 0, 0)
	expectHeights(t, "1[2?~;]", 0, 1, 1, 2, 1, -1, 1)
	expectHeights(t, "1[2?~:3,;]", 0, 1, 1, 2, 1, -1, 1, 2, 1, 1)
	expectHeights(t, "1[2?~:~;]", 0, 1, 1, 2, 1, -1, 1, -1, -1)
	expectHeights(t, "[[~]~]1", 0, 0, 0, -1, 0, -1, 0)
	expectHeights(t, "[[]]", 0, 0, 0, -1)
	expectHeights(t, "[¡]", 0, 0, -1)
	expectHeights(t, "[1?~;¡]5", 0, 0, 1, 0, -1, 0, -1, 0)
	expectHeights(t, "[1?~:¡;]5", 0, 0, 1, 0, -1, 0, -1, -1, 0)
	expectHeights(t, "1[2,]", 0, 1, 1, 2, 1)
	for _, code := range []string{"[1]", "1[,]", "[1~]1", "1[,~]1", "1[2~],", "[1?2~;]1", "1[2?,~;]", "[1?1?~;;1]1", "1[2+~]", "[~]", "[1?~;]", "1 2[~]", "[+~]", "1[+~]", "1 2[+~]1", "1 2[,3~]", "1 2[A3]", "[1?2 3?~;,;]", "[[~]1~]1", "1[2]", "[1,~]"} {
		expectRefused(t, code, api.ErrStack)
	}
	for _, code := range []string{"[]1", "[¡]1", "[~1]1", "[~~]1", "[[]~]1", "[[]1]", "[¡~]", "1?[]:[];1", "[~[]]1", "[1?~:~;1]", "[[1?~;]]1"} {
		expectRefused(t, code, api.ErrDead)
	}
	expectHeights(t, "1?[]:2;", 0, 1, 0, 0, -1, 0, 1)
	expectHeights(t, "1?[]:[];", 0, 1, 0, 0, -1, 0, 0, -1)
	expectHeights(t, "[1?[]:~;]5", 0, 0, 1, 0, 0, -1, 0, -1, -1, 0)
	// ~ leaves the innermost loop, and no other.
	expectHeights(t, "[[~]]", 0, 0, 0, -1, 0)
}

func TestBaseOfParts(t *testing.T) {
	// Nothing below the base is taken, though it lies there.
	for _, code := range []string{"1 2[,3~]", "1 2?,3;", "1 2?3:,;", "1 2 3[+4~]", "1 2 3?+4;", "1[!~]", "1?2:3;[!~]", "1[.,~]", "1[@~]", "1 2[1?+3;~]+", "1[1?!;~]", "1[A1~]", "1[1?.,;~]", "1[πa~]", "1[λg~]", "1[?~;~]", "1 1?!;"} {
		expectRefused(t, code, api.ErrStack)
	}
	expectHeights(t, "1[2!,~]", 0, 1, 1, 2, 2, 1, -1)
	expectHeights(t, "1 2?3!,;", 0, 1, 2, 1, 2, 2, 1)
	// Behind : it is the if's base again.
	expectHeights(t, "1 2?3 4+:5 6+;+", 0, 1, 2, 1, 2, 3, 2, 1, 2, 3, 2, 2)
}

func TestRefusalsOfTheLayersAbove(t *testing.T) {
	expectRefused(t, strings.Repeat("1", 513), api.ErrLong)
	expectRefused(t, strings.Repeat(" ", 512)+"1", api.ErrLong)
	expectRefused(t, "(", api.ErrForm)
	expectRefused(t, "+(", api.ErrForm)
	expectRefused(t, "]λ", api.ErrForm)
	expectRefused(t, "?", api.ErrNest)
	expectRefused(t, "+?", api.ErrNest)
	expectRefused(t, "~", api.ErrNest)
	expectRefused(t, "λb~", api.ErrNest)
	expectRefused(t, "¡1]", api.ErrNest)
	expectRefused(t, strings.Repeat("1?", 17)+strings.Repeat(";", 17)+"1", api.ErrNest)
	if _, e := check.Func(many(strings.Repeat("1?", 16)+strings.Repeat(";", 16)+"1"), 0); e != api.OK {
		t.Errorf("16 ifs in each other: refusal %d", e)
	}
	expectHeights(t, strings.Repeat(" ", 511)+"1", 0)
}

func TestTheFirstPlaceCounts(t *testing.T) {
	expectRefused(t, "λb+", api.ErrNone)
	expectRefused(t, "+λb", api.ErrStack)
	expectRefused(t, "¡1λb+", api.ErrDead)
	expectRefused(t, "1?¡+;λb", api.ErrDead)
	expectRefused(t, "1?+;¡1", api.ErrStack)
	expectRefused(t, "1?λb;¡1+", api.ErrNone)
	expectRefused(t, "1[2]λb", api.ErrStack)
}

// judge goes through a code by its parts, each in a call of its own: a second way to the same.
type judge struct {
	code    []rune
	at      int
	heights []int
}

type loop struct {
	base int
	left bool
}

type refusal struct{ e api.Errno }

func judged(code string) (l []int, e api.Errno) {
	defer func() {
		if r, ok := recover().(refusal); ok {
			l, e = nil, r.e
		}
	}()
	j := judge{code: []rune(code)}
	if h := j.row(0, 0, nil); h != -1 && h != 1 {
		panic(refusal{api.ErrStack})
	}
	return j.heights, api.OK
}

func must(ok bool) {
	if !ok {
		panic(refusal{api.ErrStack})
	}
}

// pass goes over a sign of the given height.
func (j *judge) pass(h int) rune {
	j.heights = append(j.heights, h)
	j.at++
	return j.code[j.at-1]
}

// row goes up to what ends it, and tells the height there; -1, if it is dead.
func (j *judge) row(base, h int, l *loop) int {
	for j.at < len(j.code) && !strings.ContainsRune(":;]", j.code[j.at]) {
		if h == -1 {
			panic(refusal{api.ErrDead})
		}
		switch j.pass(h) {
		case '1':
			h++
		case ',':
			must(h > base)
			h--
		case '+':
			must(h-2 >= base)
			h--
		case '?':
			must(h > base)
			h = j.parts(h-1, l)
		case '[':
			inner := &loop{base: h}
			end := j.row(h, h, inner)
			must(end == -1 || end == h)
			j.pass(end)
			if !inner.left {
				h = -1
			}
		case '~':
			must(h == l.base)
			l.left = true
			h = -1
		case '¡':
			h = -1
		}
	}
	return h
}

func (j *judge) parts(base int, l *loop) int {
	first := j.row(base, base, l)
	if j.code[j.at] == ';' {
		must(first == -1 || first == base)
		j.pass(first)
		return base
	}
	j.pass(first)
	second := j.row(base, base, l)
	must(first == -1 || second == -1 || first == second)
	j.pass(second)
	return max(first, second)
}

// Each code of six of these signs, of seven of those that turn the flow.
func TestEachShortCode(t *testing.T) {
	taken := 0
	each([]rune("1,+?:;[]~¡"), 6, func(code string) { taken += expectJudged(t, code) })
	each([]rune("1?:;[]~"), 7, func(code string) { taken += expectJudged(t, code) })
	if taken < 150 {
		t.Errorf("no more than %d codes are taken", taken)
	}
}

// Longer codes, whose parts match, by a row of numbers that is always the same.
func TestLongerCodes(t *testing.T) {
	w := writer{state: 1}
	taken, refused := 0, 0
	for range 60000 {
		w.code = w.code[:0]
		w.row(4, false)
		if expectJudged(t, string(w.code)+"1") == 1 {
			taken++
		} else {
			refused++
		}
	}
	if taken < 500 || refused < 500 {
		t.Errorf("%d codes are taken, %d refused", taken, refused)
	}
}

// writer writes codes whose parts match.
type writer struct {
	state uint32
	code  []rune
}

// pick is one of so many numbers.
func (w *writer) pick(n int) int {
	w.state = w.state*1664525 + 1013904223
	return int(w.state>>16) % n
}

func (w *writer) row(deep int, loop bool) {
	for n := w.pick(4); n > 0; n-- {
		w.item(deep, loop)
	}
}

func (w *writer) item(deep int, loop bool) {
	switch k := w.pick(12); {
	case k < 2 && deep > 0:
		w.code = append(w.code, '1', '?')
		w.row(deep-1, loop)
		if w.pick(2) == 0 {
			w.code = append(w.code, ':')
			w.row(deep-1, loop)
		}
		w.code = append(w.code, ';')
	case k < 4 && deep > 0:
		w.code = append(w.code, '[')
		w.row(deep-1, true)
		w.code = append(w.code, ']')
	case k < 6 && loop:
		w.code = append(w.code, '~')
	case k < 10:
		w.code = append(w.code, '1', ',')
	case k < 11:
		w.code = append(w.code, []rune("1+,¡")[w.pick(4)])
	}
}

// each does f with each text of n of these signs.
func each(signs []rune, n int, f func(code string)) {
	code := make([]rune, n)
	var fill func(i int)
	fill = func(i int) {
		if i == n {
			f(string(code))
			return
		}
		for _, r := range signs {
			code[i] = r
			fill(i + 1)
		}
	}
	fill(0)
}

func expectJudged(t *testing.T, code string) int {
	// Ones one behind the other are one number: part them by blanks.
	parted := strings.ReplaceAll(code, "1", "1 ")
	tokens, _ := glyph.Tokens(parted)
	got, e := check.Func(alone(parted), 0)
	if _, ne := nest.Of(tokens); ne != api.OK {
		if e != api.ErrNest {
			t.Fatalf("Func(%q): refusal %d", parted, e)
		}
		return 0
	}
	want, we := judged(code)
	if e != we || !slices.Equal(got, want) {
		t.Fatalf("Func(%q) is %v, refusal %d, not %v, %d", parted, got, e, want, we)
	}
	if e == api.OK {
		return 1
	}
	return 0
}

// R2

func TestWhatIsHandedInStays(t *testing.T) {
	u := many("1 2+")
	u.Funcs = append(u.Funcs, api.Func{Name: 'b', Code: "7"})[:len(u.Funcs)]
	given := slices.Clone(u.Funcs[:len(u.Funcs)+1])
	first, _ := check.Func(u, 0)
	check.Takes(u, api.Token{Sign: 'λ', Name: 'b'})
	check.Find(u, 'b')
	if !slices.Equal(u.Funcs[:len(u.Funcs)+1], given) {
		t.Error("the argument is changed")
	}
	first = first[:cap(first)]
	for i := range first {
		first[i] = 99
	}
	expectHeights(t, "1 2+", 0, 1, 2)
	if l, e := check.Func(u, len(u.Funcs)); e != api.ErrIndex || len(l) != 0 {
		t.Error("Func reads the room behind")
	}
}
