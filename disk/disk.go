// Package disk: sectors that may fail, and lose what was not flushed (P5).
package disk

import (
	"maps"
	"slices"

	"quarto/api"
)

// endless stands for the calls that are left where no Break counts.
const endless = -1

// Disk is sectors as they are read, and of those that are not safe what they
// were when they were safe last.
type Disk struct {
	sectors []sector
	safe    map[int]sector
	left    int // calls of Write and Flush ahead of the break, or endless
	broken  bool
	steps   int
}

type sector [api.Sector]byte

// New makes a disk whose bytes are all 0.
func New(sectors int) (*Disk, api.Errno) {
	if sectors < api.MinSectors || sectors > api.MaxSectors {
		return nil, api.ErrSize
	}
	return &Disk{sectors: make([]sector, sectors), safe: map[int]sector{}, left: endless}, api.OK
}

// Load makes a disk of bytes that are safe.
func Load(image string) (*Disk, api.Errno) {
	if len(image)%api.Sector != 0 {
		return nil, api.ErrSize
	}
	d, e := New(len(image) / api.Sector)
	if e != api.OK {
		return nil, e
	}
	for i := range d.sectors {
		copy(d.sectors[i][:], image[i*api.Sector:])
	}
	return d, api.OK
}

// Sectors tells how many sectors there are.
func (d *Disk) Sectors() int {
	return len(d.sectors)
}

// Read tells the bytes of a sector.
func (d *Disk) Read(i int) (string, api.Errno) {
	if !d.has(i) {
		return "", api.ErrSector
	}
	if d.fails() {
		return "", api.ErrBroken
	}
	d.steps++
	return string(d.sectors[i][:]), api.OK
}

// Write writes the bytes of a sector.
func (d *Disk) Write(i int, bytes string) api.Errno {
	if !d.has(i) {
		return api.ErrSector
	}
	if len(bytes) != api.Sector {
		return api.ErrSize
	}
	if d.fails() {
		return api.ErrBroken
	}
	d.spend()
	d.steps++
	if _, written := d.safe[i]; !written {
		d.safe[i] = d.sectors[i]
	}
	copy(d.sectors[i][:], bytes)
	return api.OK
}

// Flush makes safe all that was written.
func (d *Disk) Flush() api.Errno {
	if d.fails() {
		return api.ErrBroken
	}
	d.spend()
	d.settle()
	return api.OK
}

// Break lets the disk break behind n more calls of Write and Flush.
func (d *Disk) Break(n int) api.Errno {
	if n < 0 {
		return api.ErrArg
	}
	d.left = n
	return api.OK
}

// Crash takes back what is not safe, but for the places in keep, and mends the disk.
func (d *Disk) Crash(keep []int) {
	row := slices.Sorted(maps.Keys(d.safe))
	for _, place := range keep {
		if place >= 0 && place < len(row) {
			delete(d.safe, row[place])
		}
	}
	for i, old := range d.safe {
		d.sectors[i] = old
	}
	d.settle()
	d.broken, d.left = false, endless
}

// Image tells the bytes that are safe.
func (d *Disk) Image() string {
	image := make([]byte, 0, len(d.sectors)*api.Sector)
	for i, now := range d.sectors {
		if old, written := d.safe[i]; written {
			now = old
		}
		image = append(image, now[:]...)
	}
	return string(image)
}

// Steps tells how many Reads and Writes were done.
func (d *Disk) Steps() int {
	return d.steps
}

func (d *Disk) has(i int) bool {
	return i >= 0 && i < len(d.sectors)
}

// fails tells whether the disk is broken. It is asked ahead of each call that a
// Break may stop, so the disk breaks here, where no calls are left.
func (d *Disk) fails() bool {
	if d.left == 0 {
		d.broken = true
	}
	return d.broken
}

// spend counts a call that a Break counts.
func (d *Disk) spend() {
	if d.left > 0 {
		d.left--
	}
}

// settle makes the sectors safe as they are. A new map, since one that was once
// large would be slow to clear at each Flush.
func (d *Disk) settle() {
	d.safe = map[int]sector{}
}
