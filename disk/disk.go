// Package disk: sectors, of which some may be lost: see doc/01-disk.md.
package disk

import (
	"engram/api"
)

// Disk keeps two whole images: what a crash leaves alone, and what a reader is told.
type Disk struct {
	lasting []byte
	seen    []byte
	// A written sector waits even if its bytes are the lasting ones, so that the images alone can't tell it.
	waiting []bool
}

// New makes a disk of zeros; nil, unless it has 1 to MaxSectors sectors.
func New(sectors int) *Disk {
	if sectors < 1 || sectors > api.MaxSectors {
		return nil
	}
	return Of(make([]byte, sectors*api.Sector))
}

// Of makes a disk whose lasting bytes are image; nil, unless they are 1 to MaxSectors whole sectors.
func Of(image []byte) *Disk {
	sectors := len(image) / api.Sector
	if sectors < 1 || sectors > api.MaxSectors || len(image)%api.Sector != 0 {
		return nil
	}
	return &Disk{lasting: fresh(image), seen: fresh(image), waiting: make([]bool, sectors)}
}

// Len tells how many sectors the disk has.
func (d *Disk) Len() int {
	return len(d.waiting)
}

// Read tells sector i as it was written last; false of none.
func (d *Disk) Read(i int) ([]byte, bool) {
	if !d.has(i) {
		return nil, false
	}
	return fresh(sector(d.seen, i)), true
}

// Write puts b into sector i, which waits then; false, unless i is a sector and b as long as one.
func (d *Disk) Write(i int, b []byte) bool {
	if !d.has(i) || len(b) != api.Sector {
		return false
	}
	copy(sector(d.seen, i), b)
	d.waiting[i] = true
	return true
}

// Flush makes all that waits last.
func (d *Disk) Flush() {
	for i := range d.waiting {
		d.settle(i, api.Sector)
	}
}

// Crash keeps of the i-th sector that waits the first cuts[i] bytes written, and tells how many waited.
func (d *Disk) Crash(cuts ...int) int {
	waited := d.Waits()
	for i, at := range waited {
		cut := 0
		if i < len(cuts) {
			cut = min(max(cuts[i], 0), api.Sector)
		}
		d.settle(at, cut)
	}
	return len(waited)
}

// Image tells the lasting bytes.
func (d *Disk) Image() []byte {
	return fresh(d.lasting)
}

// Seen tells all sectors as Read does.
func (d *Disk) Seen() []byte {
	return fresh(d.seen)
}

// Waits tells which sectors wait, rising.
func (d *Disk) Waits() []int {
	var l []int
	for i, waits := range d.waiting {
		if waits {
			l = append(l, i)
		}
	}
	return l
}

func (d *Disk) has(i int) bool {
	return i >= 0 && i < d.Len()
}

// settle makes the first cut bytes of what is seen of sector i last, and the lasting ones behind them seen: it waits no more.
func (d *Disk) settle(i, cut int) {
	lasting, seen := sector(d.lasting, i), sector(d.seen, i)
	copy(lasting[:cut], seen[:cut])
	copy(seen[cut:], lasting[cut:])
	d.waiting[i] = false
}

// sector is the piece of b, shared with it, that is sector i.
func sector(b []byte, i int) []byte {
	return b[i*api.Sector : (i+1)*api.Sector]
}

func fresh(b []byte) []byte {
	c := make([]byte, len(b))
	copy(c, b)
	return c
}
