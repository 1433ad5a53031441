// Package tree: rectangles by keys, in a tree of nodes that are sectors of a disk.
//
// The head, in a sector of its own, tells the root. A change writes its nodes
// to sectors that are free, and makes them safe, and then the head: so that the
// state ahead of it is there until the head is safe.
package tree

import (
	"iter"

	"quarto/api"
	"quarto/disk"
)

// headSector is the sector of the head. As it is no node's, it stands as the
// root, too, where there is none.
const (
	headSector = 0
	none       = headSector
)

// Tree is a tree on a disk.
type Tree struct {
	disk *disk.Disk
	free []int // the sectors of no node
}

// From tells the entries from a key on, by rising keys. Where one can't be
// read, the error is told in its place, and nothing behind it.
func (t *Tree) From(key Key) iter.Seq2[Entry, api.Errno] {
	return func(yield func(Entry, api.Errno) bool) {
		root, e := t.root()
		if e != api.OK {
			yield(Entry{}, e)
			return
		}
		if root != none {
			t.tell(root, key, yield)
		}
	}
}

// tell tells the entries of a node, from a key on, and whether more are asked for.
func (t *Tree) tell(sector int, key Key, yield func(Entry, api.Errno) bool) bool {
	n, e := t.read(sector)
	if e != api.OK {
		yield(Entry{}, e)
		return false
	}
	switch n := n.(type) {
	case leaf:
		from, _ := n.find(key)
		for _, entry := range n.row[from:] {
			if !yield(entry, api.OK) {
				return false
			}
		}
	case branch:
		for _, child := range n.row[n.under(key):] {
			if !t.tell(child.Value, key, yield) {
				return false
			}
		}
	}
	return true
}

// root reads the root's sector.
func (t *Tree) root() (int, api.Errno) {
	bytes, e := t.disk.Read(headSector)
	if e != api.OK {
		return none, e
	}
	root, ok := readHead(bytes)
	if !ok {
		return none, api.ErrCorrupt
	}
	return root, api.OK
}

// read reads a node.
func (t *Tree) read(sector int) (node, api.Errno) {
	bytes, e := t.disk.Read(sector)
	if e != api.OK {
		return nil, e
	}
	n, ok := readNode(bytes)
	if !ok {
		return nil, api.ErrCorrupt
	}
	return n, api.OK
}
