// Package index: rectangles by their numbers, and by the cells that they have.
package index

import (
	"quarto/api"
	"quarto/grid"
	"quarto/tree"
)

// Index is an index on a disk.
type Index struct {
	tree *tree.Tree
	dead bool
}

// Put gives a rectangle a number.
func (x *Index) Put(id int, r api.Rect) api.Errno {
	if e := x.refuse(id); e != api.OK {
		return e
	}
	if !grid.Right(r) {
		return api.ErrRect
	}
	return x.mind(x.put(id, r))
}

// Delete takes the rectangle of a number out.
func (x *Index) Delete(id int) api.Errno {
	if e := x.refuse(id); e != api.OK {
		return e
	}
	return x.mind(x.remove(id))
}

// Get tells the rectangle of a number.
func (x *Index) Get(id int) (api.Rect, api.Errno) {
	if e := x.refuse(id); e != api.OK {
		return api.Rect{}, e
	}
	r, e := x.find(id)
	return r, x.mind(e)
}

// Window tells the numbers of the rectangles that meet a window.
func (x *Index) Window(w api.Rect) ([]int, api.Errno) {
	if x.dead {
		return nil, api.ErrDead
	}
	if !grid.Right(w) {
		return nil, api.ErrRect
	}
	ids, e := x.search(w)
	return ids, x.mind(e)
}

// Count tells how many rectangles there are.
func (x *Index) Count() (int, api.Errno) {
	if x.dead {
		return 0, api.ErrDead
	}
	n, e := x.count()
	return n, x.mind(e)
}

// refuse tells the error of a call with this number that needs no disk.
func (x *Index) refuse(id int) api.Errno {
	switch {
	case x.dead:
		return api.ErrDead
	case !isId(id):
		return api.ErrId
	}
	return api.OK
}

// mind keeps in mind that the disk failed.
func (x *Index) mind(e api.Errno) api.Errno {
	if e == api.ErrBroken {
		x.dead = true
	}
	return e
}
