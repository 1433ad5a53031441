package index

import (
	"quarto/api"
	"quarto/tree"
)

// spare is how many sectors a Put leaves free, so that a Delete finds room, in
// an index however full. It takes out five entries at most, of a tree that is
// at most five nodes high, and writes two nodes at most for each that it goes through.
//
// By the same count a Put, which takes out five entries and puts in five, reads
// and writes fewer than 200 sectors: so no call comes near to api.MaxSteps.
const spare = 50

func (x *Index) put(id int, r api.Rect) api.Errno {
	old, e := x.find(id)
	if e != api.OK && e != api.ErrMissing {
		return e
	}
	missing := e == api.ErrMissing
	c, e := x.tree.Change()
	if e != api.OK {
		return e
	}
	if !missing {
		if e := takeOut(c, id, old); e != api.OK {
			return e
		}
	}
	for _, entry := range entries(id, r) {
		if e := c.Put(entry); e != api.OK {
			return e
		}
	}
	return c.Commit(spare)
}

func (x *Index) remove(id int) api.Errno {
	old, e := x.find(id)
	if e != api.OK {
		return e
	}
	c, e := x.tree.Change()
	if e != api.OK {
		return e
	}
	if e := takeOut(c, id, old); e != api.OK {
		return e
	}
	return c.Commit(0)
}

// takeOut takes the entries of a rectangle out.
func takeOut(c *tree.Change, id int, r api.Rect) api.Errno {
	for _, entry := range entries(id, r) {
		if e := c.Delete(entry.Key); e != api.OK {
			return e
		}
	}
	return api.OK
}
