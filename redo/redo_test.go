package redo_test

import (
	"bytes"
	"math"
	"slices"
	"testing"

	"engram/api"
	"engram/delta"
	"engram/disk"
	"engram/frame"
	"engram/redo"
)

// counted is n bytes that count from a number on; 251 is no multiple of a sector, so that no two sectors are alike.
func counted(from, n int) []byte {
	b := make([]byte, n)
	for i := range b {
		b[i] = byte((from + i) % 251)
	}
	return b
}

func of(log, pages int) api.Root { return api.Root{Log: log, Pages: pages, Epoch: 7} }

// filled is a disk of so many sectors that are all different.
func filled(t *testing.T, sectors int) *disk.Disk {
	t.Helper()
	d := disk.Of(counted(0, sectors*api.Sector))
	if d == nil {
		t.Fatalf("no disk of %d", sectors)
	}
	return d
}

// wrong are roots that do not part a disk of nine sectors.
func wrong() []api.Root {
	return []api.Root{{}, of(0, 1), of(1, 0), of(-1, 1), of(1, -1), of(65, 1), of(1, 65), of(3, 5), of(7, 1), of(math.MaxInt, math.MaxInt), of(math.MinInt, 1), {Log: 3, Pages: 4}}
}

// P16.1: Bytes

func TestBytes(t *testing.T) {
	for _, c := range []struct{ log, pages, sectors int }{{1, 1, 4}, {3, 4, 9}, {3, 1, 9}, {64, 64, 130}, {64, 1, 160}} {
		d := filled(t, c.sectors)
		want := counted(2*api.Sector, c.log*api.Sector)
		if got := redo.Bytes(d, of(c.log, c.pages)); !bytes.Equal(got, want) {
			t.Errorf("Bytes of %v: %v, not %v", c, got, want)
		}
	}
}

func TestBytesAreAsTheyAreRead(t *testing.T) {
	d := disk.New(9)
	d.Write(3, counted(5, api.Sector))
	d.Write(5, counted(9, api.Sector))
	want := slices.Concat(make([]byte, api.Sector), counted(5, api.Sector), make([]byte, api.Sector))
	if got := redo.Bytes(d, of(3, 4)); !bytes.Equal(got, want) {
		t.Errorf("Bytes of what waits: %v", got)
	}
	if !slices.Equal(d.Waits(), []int{3, 5}) {
		t.Errorf("Waits are %v", d.Waits())
	}
}

func TestBytesOfNone(t *testing.T) {
	for _, r := range wrong() {
		if got := redo.Bytes(filled(t, 9), r); len(got) > 0 {
			t.Errorf("Bytes of %v: %d", r, len(got))
		}
	}
	if got := redo.Bytes(nil, of(3, 4)); len(got) > 0 {
		t.Errorf("Bytes of no disk: %d", len(got))
	}
}

func TestBytesAreNew(t *testing.T) {
	d := filled(t, 9)
	b := redo.Bytes(d, of(3, 4))
	b = b[:cap(b)]
	for i := range b {
		b[i] = 255
	}
	if !bytes.Equal(d.Seen(), counted(0, 9*api.Sector)) {
		t.Error("Bytes are the disk's own")
	}
}

// P16.1: Append

// touched are the sectors that n bytes from the log's byte at on lie in.
func touched(at, n int) []int {
	var l []int
	for i := at; i < at+n; i++ {
		if s := 2 + i/api.Sector; len(l) == 0 || l[len(l)-1] != s {
			l = append(l, s)
		}
	}
	return l
}

func TestAppend(t *testing.T) {
	const size = 3 * api.Sector
	for at := 0; at <= size; at++ {
		for _, n := range []int{0, 1, 2, 63, 64, 65, 127, 128, 129, size - 1, size, size + 1, size - at, size - at + 1} {
			if n < 0 {
				continue
			}
			d, b := filled(t, 9), counted(100, n)
			want, waits := d.Seen(), []int(nil)
			if at+n <= size {
				copy(want[2*api.Sector+at:], b)
				waits = touched(at, n)
			}
			if got := redo.Append(d, of(3, 4), at, b); got != (at+n <= size) {
				t.Errorf("Append at %d of %d is %v", at, n, got)
			}
			if !bytes.Equal(d.Seen(), want) || !slices.Equal(d.Waits(), waits) {
				t.Errorf("Append at %d of %d: waits %v, not %v", at, n, d.Waits(), waits)
			}
			if !bytes.Equal(d.Image(), counted(0, 9*api.Sector)) || !bytes.Equal(b, counted(100, n)) {
				t.Errorf("Append at %d of %d flushes, or turns what is handed in", at, n)
			}
		}
	}
}

func TestAppendRefuses(t *testing.T) {
	d := filled(t, 9)
	for _, at := range []int{-1, 3*api.Sector + 1, math.MaxInt, math.MinInt, math.MaxInt - 1} {
		for _, b := range [][]byte{nil, {}, {1}, counted(1, 3*api.Sector)} {
			if redo.Append(d, of(3, 4), at, b) {
				t.Errorf("Append at %d of %d", at, len(b))
			}
		}
	}
	for _, r := range wrong() {
		for _, b := range [][]byte{nil, {}, {1}, counted(1, 3*api.Sector)} {
			if redo.Append(d, r, 0, b) {
				t.Errorf("Append to %v of %d", r, len(b))
			}
		}
	}
	if !bytes.Equal(d.Seen(), counted(0, 9*api.Sector)) || len(d.Waits()) > 0 {
		t.Error("a refused Append has turned something")
	}
	if redo.Append(nil, of(3, 4), 0, nil) || redo.Append(nil, of(3, 4), 0, []byte{1}) {
		t.Error("Append to no disk")
	}
}

func TestAppendToTheLongestLog(t *testing.T) {
	d, b := filled(t, 160), counted(3, 64*api.Sector)
	if !redo.Append(d, of(64, 64), 0, b) || !bytes.Equal(redo.Bytes(d, of(64, 64)), b) || len(d.Waits()) != 64 {
		t.Error("Append of all bytes of the longest log")
	}
	if redo.Append(d, of(64, 64), 1, b) || !redo.Append(d, of(64, 64), 64*api.Sector-1, []byte{1}) {
		t.Error("Append at the end of the longest log")
	}
}

func TestAppendReadsWhatWaits(t *testing.T) {
	d := disk.New(9)
	redo.Append(d, of(3, 4), 60, counted(10, 8))
	redo.Append(d, of(3, 4), 68, counted(20, 70))
	want := slices.Concat(make([]byte, 60), counted(10, 8), counted(20, 70), make([]byte, 54))
	if got := redo.Bytes(d, of(3, 4)); !bytes.Equal(got, want) || !slices.Equal(d.Waits(), []int{2, 3, 4}) {
		t.Errorf("two Appends: %v, waits %v", got, d.Waits())
	}
}

func TestAppendDoesNotReadTheRoomBehind(t *testing.T) {
	d, b := disk.New(9), counted(1, 80)
	redo.Append(d, of(3, 4), 0, b[:5])
	if want := append(counted(1, 5), make([]byte, 187)...); !bytes.Equal(redo.Bytes(d, of(3, 4)), want) {
		t.Errorf("Append has read behind: %v", redo.Bytes(d, of(3, 4)))
	}
	if !bytes.Equal(b, counted(1, 80)) {
		t.Error("Append has written behind")
	}
}

// P16.1: Records

func row(pages ...int) []api.Change {
	var l []api.Change
	for _, p := range pages {
		l = append(l, api.Change{Page: p, B: counted(p, api.Sector)})
	}
	return l
}

// logged is a disk of a log that holds these bytes.
func logged(t *testing.T, r api.Root, b ...[]byte) *disk.Disk {
	t.Helper()
	d := disk.New(2 + r.Log + r.Pages)
	if !redo.Append(d, r, 0, bytes.Join(b, nil)) {
		t.Fatal("the log is too short")
	}
	return d
}

func record(seq uint32, pages ...int) []byte {
	return frame.Bytes(7, seq, delta.Bytes(row(pages...)))
}

func expectRecords(t *testing.T, what string, d *disk.Disk, r api.Root, long int, want ...[]api.Change) {
	t.Helper()
	got, n := redo.Records(d, r)
	if n != long || !slices.EqualFunc(got, want, delta.Same) {
		t.Errorf("%s: Records are %v, %d, not %v, %d", what, got, n, want, long)
	}
}

func TestRecords(t *testing.T) {
	r := of(9, 5)
	expectRecords(t, "zeros", disk.New(20), r, 0)
	expectRecords(t, "one", logged(t, r, record(0, 2)), r, 84, row(2))
	expectRecords(t, "no changes", logged(t, r, record(0)), r, 18, row())
	expectRecords(t, "some", logged(t, r, record(0, 0, 4), record(1), record(2, 3), record(3, 3)), r, 150+18+84+84, row(0, 4), row(), row(3), row(3))
	full := logged(t, of(2, 5), record(0, 1), record(1), record(2))
	expectRecords(t, "to the end but 8 bytes", full, of(2, 5), 120, row(1), row(), row())
	whole := logged(t, of(9, 5), frame.Bytes(7, 0, delta.Bytes(row(0, 1, 2, 3, 4))), record(1, 2), record(2, 2), record(3))
	expectRecords(t, "long", whole, r, 348+84+84+18, row(0, 1, 2, 3, 4), row(2), row(2), row())
}

func TestRecordsEnd(t *testing.T) {
	r := of(9, 5)
	one := record(0, 1)
	expectRecords(t, "another epoch", logged(t, r, frame.Bytes(6, 0, delta.Bytes(row(1)))), r, 0)
	expectRecords(t, "an elder epoch behind", logged(t, r, one, frame.Bytes(6, 1, delta.Bytes(row(2)))), r, 84, row(1))
	expectRecords(t, "another seq", logged(t, r, one, record(2, 2)), r, 84, row(1))
	expectRecords(t, "the same seq", logged(t, r, one, record(0, 2)), r, 84, row(1))
	expectRecords(t, "a gap", logged(t, r, one, []byte{0}, record(1, 2)), r, 84, row(1))
	expectRecords(t, "another root's pages", logged(t, r, one, record(1, 4), record(2, 0)), of(9, 4), 84, row(1))
	for what, b := range map[string][]byte{
		"no bytes": {}, "one byte": {0}, "a byte too many": {0, 0, 0}, "pages that fall": delta.Bytes(row(2, 1)), "a page twice": delta.Bytes(row(2, 2)), "no such page": delta.Bytes(row(5)), "a number too great": {0, 1}, "words": []byte("changes"),
	} {
		d := logged(t, r, one, frame.Bytes(7, 1, b), record(2, 3))
		expectRecords(t, what, d, r, 84, row(1))
		expectRecords(t, what+" first", logged(t, r, frame.Bytes(7, 0, b), record(1, 3)), r, 0)
	}
}

func TestRecordsThatAreTorn(t *testing.T) {
	r := of(9, 5)
	b := bytes.Join([][]byte{record(0, 1), record(1, 2, 3), record(2)}, nil)
	ends := []int{84, 84 + 150, 84 + 150 + 18}
	for n := range b {
		torn := slices.Clone(b)
		torn[n] ^= 0x10
		k := 0
		for n >= ends[k] {
			k++
		}
		want := [][]api.Change{row(1), row(2, 3), row()}[:k]
		expectRecords(t, "torn", logged(t, r, torn), r, append([]int{0}, ends...)[k], want...)
	}
}

func TestRecordsOfNone(t *testing.T) {
	r := of(3, 4)
	d := logged(t, r, record(0, 1))
	expectRecords(t, "right", d, r, 84, row(1))
	for _, w := range wrong() {
		w.Epoch = min(w.Epoch, 7)
		expectRecords(t, "wrong root", d, w, 0)
	}
	expectRecords(t, "no disk", nil, r, 0)
}

func TestRecordsAreNew(t *testing.T) {
	r := of(9, 5)
	d := logged(t, r, record(0, 1, 2), record(1, 1))
	before := d.Seen()
	got, _ := redo.Records(d, r)
	for i := range got {
		for j := range got[i] {
			b := got[i][j].B
			b = b[:cap(b)]
			for k := range b {
				b[k] = 255
			}
			got[i][j].B = nil
		}
	}
	expectRecords(t, "spoilt", d, r, 150+84, row(1, 2), row(1))
	if !bytes.Equal(d.Seen(), before) {
		t.Error("Records has turned the disk")
	}
}

func TestRecordsOfWhatWaits(t *testing.T) {
	r := of(9, 5)
	d := logged(t, r, record(0, 1))
	d.Flush()
	redo.Append(d, r, 84, record(1, 2))
	expectRecords(t, "waiting", d, r, 168, row(1), row(2))
	d.Crash(30)
	expectRecords(t, "torn by a crash", d, r, 84, row(1))
}
