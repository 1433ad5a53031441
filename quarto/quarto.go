// Package quarto: rectangles in an index on a disk: see DOC.md.
package quarto

import (
	"quarto/api"
	"quarto/disk"
	"quarto/grid"
	"quarto/index"
)

// Disk is sectors, and what was written and is not safe.
type Disk struct {
	inner *disk.Disk
}

// Index is rectangles by numbers.
type Index struct {
	inner *index.Index
}

// Code tells a point's code (P3).
func Code(x int, y int) int {
	if !grid.OnGrid(x, y) {
		return -1
	}
	return grid.Code(x, y)
}

// Cover tells the cells of a rectangle (P4).
func Cover(r api.Rect) ([]api.Cell, api.Errno) {
	if !grid.Right(r) {
		return nil, api.ErrRect
	}
	return grid.Cover(r), api.OK
}

// Next tells the next code within a window (P4).
func Next(code int, w api.Rect) (int, api.Errno) {
	if code < 0 || code >= grid.Codes {
		return 0, api.ErrArg
	}
	if !grid.Right(w) {
		return 0, api.ErrRect
	}
	return grid.Next(code, w), api.OK
}

// NewDisk makes a disk (P5).
func NewDisk(sectors int) (*Disk, api.Errno) {
	return hold(disk.New(sectors))
}

// LoadDisk makes a disk of bytes (P5).
func LoadDisk(image string) (*Disk, api.Errno) {
	return hold(disk.Load(image))
}

// hold makes a Disk of a disk that was made, and nil of one that was not.
func hold(made *disk.Disk, e api.Errno) (*Disk, api.Errno) {
	if e != api.OK {
		return nil, e
	}
	return &Disk{inner: made}, api.OK
}

// Read reads a sector (P5).
func (d *Disk) Read(i int) (string, api.Errno) {
	if d == nil {
		return "", api.ErrNil
	}
	return d.inner.Read(i)
}

// Write writes a sector (P5).
func (d *Disk) Write(i int, bytes string) api.Errno {
	if d == nil {
		return api.ErrNil
	}
	return d.inner.Write(i, bytes)
}

// Flush makes safe what was written (P5).
func (d *Disk) Flush() api.Errno {
	if d == nil {
		return api.ErrNil
	}
	return d.inner.Flush()
}

// Break lets the disk fail (P5).
func (d *Disk) Break(n int) api.Errno {
	if d == nil {
		return api.ErrNil
	}
	return d.inner.Break(n)
}

// Crash lets it lose what is not safe, and work again (P5).
func (d *Disk) Crash(keep []int) api.Errno {
	if d == nil {
		return api.ErrNil
	}
	d.inner.Crash(keep)
	return api.OK
}

// Image tells what is safe (P5).
func (d *Disk) Image() (string, api.Errno) {
	if d == nil {
		return "", api.ErrNil
	}
	return d.inner.Image(), api.OK
}

// Steps tells how many reads and writes there were (P5).
func (d *Disk) Steps() (int, api.Errno) {
	if d == nil {
		return 0, api.ErrNil
	}
	return d.inner.Steps(), api.OK
}

// Open opens the index on a disk (P6).
func Open(d *Disk) (*Index, api.Errno) {
	if d == nil {
		return nil, api.ErrNil
	}
	opened, e := index.Open(d.inner)
	if e != api.OK {
		return nil, e
	}
	return &Index{inner: opened}, api.OK
}

// Put puts a rectangle in (P7).
func (x *Index) Put(id int, r api.Rect) api.Errno {
	if x == nil {
		return api.ErrNil
	}
	return x.inner.Put(id, r)
}

// Delete takes a rectangle out (P7).
func (x *Index) Delete(id int) api.Errno {
	if x == nil {
		return api.ErrNil
	}
	return x.inner.Delete(id)
}

// Get tells a rectangle (P7).
func (x *Index) Get(id int) (api.Rect, api.Errno) {
	if x == nil {
		return api.Rect{}, api.ErrNil
	}
	return x.inner.Get(id)
}

// Window tells the rectangles that meet a window (P7).
func (x *Index) Window(w api.Rect) ([]int, api.Errno) {
	if x == nil {
		return nil, api.ErrNil
	}
	return x.inner.Window(w)
}

// Count tells how many rectangles there are (P7).
func (x *Index) Count() (int, api.Errno) {
	if x == nil {
		return 0, api.ErrNil
	}
	return x.inner.Count()
}
