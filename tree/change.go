package tree

import (
	"maps"
	"slices"

	"quarto/api"
)

// Change is a new state of a tree that is made in memory. The tree is as it was
// until it is committed; it has one change at a time.
type Change struct {
	tree *Tree
	root int
	made map[int]node // what is to be written, by sectors
	free []int        // the sectors that may be written
	left []int        // the sectors of nodes that only the state ahead has
}

// Change begins a change.
func (t *Tree) Change() (*Change, api.Errno) {
	root, e := t.root()
	if e != api.OK {
		return nil, e
	}
	return &Change{tree: t, root: root, made: map[int]node{}, free: slices.Clone(t.free)}, api.OK
}

// Put puts an entry in, in place of one with its key: ErrSpace, if there is no
// room; then the change is of no more use.
func (c *Change) Put(entry Entry) api.Errno {
	return c.edit(entry.Key, func(l leaf) leaf { return l.with(entry) })
}

// Delete takes the entry with a key out, if there is one: ErrSpace, as Put.
func (c *Change) Delete(key Key) api.Errno {
	return c.edit(key, func(l leaf) leaf { return l.without(key) })
}

// Commit makes the change, safe: ErrSpace, if fewer sectors than asked for
// would be free behind it.
func (c *Change) Commit(spare int) api.Errno {
	free := slices.Concat(c.free, c.left)
	if len(free) < spare {
		return api.ErrSpace
	}
	if e := c.writeNodes(); e != api.OK {
		return e
	}
	if e := c.writeHead(); e != api.OK {
		return e
	}
	c.tree.free = free
	return api.OK
}

func (c *Change) writeNodes() api.Errno {
	for _, sector := range slices.Sorted(maps.Keys(c.made)) {
		if e := c.tree.disk.Write(sector, c.made[sector].bytes()); e != api.OK {
			return e
		}
	}
	// The head may be safe at once when it is written, so all that it leads to must be.
	return c.tree.disk.Flush()
}

func (c *Change) writeHead() api.Errno {
	if e := c.tree.disk.Write(headSector, headBytes(c.root)); e != api.OK {
		return e
	}
	return c.tree.disk.Flush()
}

// edit changes the leaf in which a key is, or would be put.
func (c *Change) edit(key Key, leafEdit func(leaf) leaf) api.Errno {
	n, e := c.editNode(c.root, key, leafEdit)
	if e != api.OK {
		return e
	}
	return c.plant(n)
}

// editNode answers a node that is changed in its leaf, for the one in a sector:
// this one is no more in the tree, and the new one not yet.
func (c *Change) editNode(sector int, key Key, leafEdit func(leaf) leaf) (node, api.Errno) {
	n, e := c.take(sector)
	if e != api.OK {
		return nil, e
	}
	switch n := n.(type) {
	case leaf:
		return leafEdit(n), api.OK
	case branch:
		return c.editUnder(n, key, leafEdit)
	}
	return nil, api.ErrCorrupt
}

// editUnder answers a branch with the node changed under which a key is. Where
// that one is poor then, it is joined with the one beside it.
func (c *Change) editUnder(b branch, key Key, leafEdit func(leaf) leaf) (node, api.Errno) {
	from := b.under(key)
	to := from + 1
	n, e := c.editNode(b.row[from].Value, key, leafEdit)
	if e != api.OK {
		return nil, e
	}
	if n.poor() && from > 0 {
		from--
		ahead, e := c.take(b.row[from].Value)
		if e != api.OK {
			return nil, e
		}
		n = ahead.join(n)
	} else if n.poor() {
		behind, e := c.take(b.row[to].Value)
		if e != api.OK {
			return nil, e
		}
		to++
		n = n.join(behind)
	}
	parts, e := c.keep(n)
	if e != api.OK {
		return nil, e
	}
	return branch{b.swap(from, to, parts...)}, api.OK
}

// plant makes a node the root; one that has too much stands under a new one,
// and a branch with one node gives way to that.
func (c *Change) plant(n node) api.Errno {
	if b, ok := n.(branch); ok && len(b.row) == 1 {
		c.root = b.row[0].Value
		return api.OK
	}
	parts, e := c.keep(n)
	if e != api.OK {
		return e
	}
	switch len(parts) {
	case 0:
		c.root = none
	case 1:
		c.root = parts[0].Value
	default:
		return c.plant(branch{parts})
	}
	return api.OK
}

// keep gives sectors to a node's parts, and answers these by their least keys.
func (c *Change) keep(n node) (row[int], api.Errno) {
	var kept row[int]
	for _, part := range n.parts() {
		if len(c.free) == 0 {
			return nil, api.ErrSpace
		}
		last := len(c.free) - 1
		sector := c.free[last]
		c.free = c.free[:last]
		c.made[sector] = part
		kept = append(kept, pair[int]{part.first(), sector})
	}
	return kept, api.OK
}

// take answers the node of a sector (of none: a leaf without entries), and
// takes it out of the new state.
func (c *Change) take(sector int) (node, api.Errno) {
	if sector == none {
		return leaf{}, api.OK
	}
	if n, ok := c.made[sector]; ok {
		delete(c.made, sector)
		c.free = append(c.free, sector)
		return n, api.OK
	}
	c.left = append(c.left, sector)
	return c.tree.read(sector)
}
