package home_test

import (
	"bytes"
	"math"
	"slices"
	"testing"

	"engram/api"
	"engram/disk"
	"engram/home"
)

// page is a page whose bytes count from n on.
func page(n int) []byte {
	b := make([]byte, api.Sector)
	for i := range b {
		b[i] = byte(n + i)
	}
	return b
}

func of(log, pages int) api.Root { return api.Root{Log: log, Pages: pages, Epoch: 7} }

// filled is a disk whose sector i is page(i).
func filled(t *testing.T, sectors int) *disk.Disk {
	t.Helper()
	var b []byte
	for i := range sectors {
		b = append(b, page(i)...)
	}
	d := disk.Of(b)
	if d == nil {
		t.Fatalf("no disk of %d", sectors)
	}
	return d
}

// wrong are roots that do not part a disk of nine sectors.
func wrong() []api.Root {
	return []api.Root{{}, of(0, 1), of(1, 0), of(-1, 1), of(1, -1), of(65, 1), of(1, 65), of(3, 5), of(4, 4), of(math.MaxInt, math.MaxInt), of(1, math.MaxInt), of(1, math.MinInt), {Log: 3, Pages: 4}}
}

// P17.1: Page

func TestPage(t *testing.T) {
	for _, c := range []struct{ log, pages, sectors int }{{1, 1, 4}, {3, 4, 9}, {3, 2, 9}, {64, 64, 130}, {1, 64, 160}} {
		d, r := filled(t, c.sectors), of(c.log, c.pages)
		for i := -3; i < c.pages+3; i++ {
			b, ok := home.Page(d, r, i)
			if ok != (i >= 0 && i < c.pages) || ok && !bytes.Equal(b, page(2+c.log+i)) || !ok && len(b) > 0 {
				t.Errorf("Page(%d) of %v: %v, %v", i, c, b, ok)
			}
		}
		for _, i := range []int{math.MaxInt, math.MinInt, math.MaxInt - 4} {
			if b, ok := home.Page(d, r, i); ok || len(b) > 0 {
				t.Errorf("Page(%d) of %v", i, c)
			}
		}
	}
}

func TestPageOfNone(t *testing.T) {
	for _, r := range wrong() {
		if b, ok := home.Page(filled(t, 9), r, 0); ok || len(b) > 0 {
			t.Errorf("Page of %v", r)
		}
	}
	if b, ok := home.Page(nil, of(3, 4), 0); ok || len(b) > 0 {
		t.Error("Page of no disk")
	}
}

func TestPageIsAsItIsRead(t *testing.T) {
	d := disk.New(9)
	d.Write(6, page(50))
	b, ok := home.Page(d, of(3, 4), 1)
	if !ok || !bytes.Equal(b, page(50)) {
		t.Errorf("what waits: %v, %v", b, ok)
	}
	b[0] = 99
	if b, _ := home.Page(d, of(3, 4), 1); !bytes.Equal(b, page(50)) {
		t.Error("Page is the disk's own")
	}
}

// P17.1: Put

func TestPut(t *testing.T) {
	for i := -2; i < 6; i++ {
		d, b := filled(t, 9), page(100)
		want, waits := d.Seen(), []int(nil)
		if i >= 0 && i < 4 {
			copy(want[(5+i)*api.Sector:], b)
			waits = []int{5 + i}
		}
		if got := home.Put(d, of(3, 4), i, b); got != (waits != nil) {
			t.Errorf("Put(%d) is %v", i, got)
		}
		b[0] = 0
		if !bytes.Equal(d.Seen(), want) || !slices.Equal(d.Waits(), waits) {
			t.Errorf("Put(%d): waits %v, not %v", i, d.Waits(), waits)
		}
	}
}

func TestPutRefuses(t *testing.T) {
	d := filled(t, 9)
	long := append(page(1), page(2)...)
	for _, n := range []int{0, 1, 3, 63, 65, 128} {
		if home.Put(d, of(3, 4), 1, long[:n]) {
			t.Errorf("Put of %d bytes", n)
		}
	}
	if home.Put(d, of(3, 4), 1, nil) {
		t.Error("Put of nil")
	}
	for _, i := range []int{math.MaxInt, math.MinInt, -3, 4} {
		if home.Put(d, of(3, 4), i, page(1)) {
			t.Errorf("Put(%d)", i)
		}
	}
	for _, r := range wrong() {
		if home.Put(d, r, 0, page(1)) {
			t.Errorf("Put to %v", r)
		}
	}
	if home.Put(nil, of(3, 4), 0, page(1)) {
		t.Error("Put to no disk")
	}
	if !bytes.Equal(d.Seen(), filled(t, 9).Seen()) || len(d.Waits()) > 0 {
		t.Error("a refused Put has turned something")
	}
}

func TestPutTakesLengthAndNotRoom(t *testing.T) {
	d, b := filled(t, 9), append(page(1), page(2)...)
	if !home.Put(d, of(3, 4), 0, b[:api.Sector]) || home.Put(d, of(3, 4), 1, b[:api.Sector-1]) {
		t.Error("Put by the room behind")
	}
	if !bytes.Equal(b, append(page(1), page(2)...)) {
		t.Error("what is handed in is turned")
	}
}

// P17.1: All

func expectAll(t *testing.T, what string, got [][]byte, want ...[]byte) {
	t.Helper()
	if !slices.EqualFunc(got, want, bytes.Equal) {
		t.Errorf("%s: All is %v, not %v", what, got, want)
	}
}

func TestAll(t *testing.T) {
	expectAll(t, "one", home.All(filled(t, 9), of(1, 1)), page(3))
	expectAll(t, "four", home.All(filled(t, 9), of(3, 4)), page(5), page(6), page(7), page(8))
	expectAll(t, "two", home.All(filled(t, 9), of(1, 2)), page(3), page(4))
	expectAll(t, "zeros", home.All(disk.New(5), of(1, 2)), make([]byte, api.Sector), make([]byte, api.Sector))
	d := disk.New(5)
	home.Put(d, of(1, 2), 1, page(7))
	expectAll(t, "what waits", home.All(d, of(1, 2)), make([]byte, api.Sector), page(7))
	if got := home.All(filled(t, 160), of(64, 64)); len(got) != 64 || !bytes.Equal(got[63], page(129)) {
		t.Errorf("%d pages", len(got))
	}
}

func TestAllOfNone(t *testing.T) {
	for _, r := range wrong() {
		expectAll(t, "wrong root", home.All(filled(t, 9), r))
	}
	expectAll(t, "no disk", home.All(nil, of(3, 4)))
	expectAll(t, "no disk, many pages", home.All(nil, of(3, math.MaxInt)))
}

func TestAllIsNew(t *testing.T) {
	d := filled(t, 9)
	got := home.All(d, of(3, 4))
	for i, b := range got {
		if !bytes.Equal(b, page(5+i)) {
			t.Errorf("page %d shares memory with another", i)
		}
		b = b[:cap(b)]
		for j := range b {
			b[j] = 99
		}
	}
	expectAll(t, "spoilt", home.All(d, of(3, 4)), page(5), page(6), page(7), page(8))
}
