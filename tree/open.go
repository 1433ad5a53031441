package tree

import (
	"quarto/api"
	"quarto/disk"
)

// survey is what is known of a tree while it is looked through.
type survey struct {
	tree *Tree
	seen []bool // by sectors
	last Key    // of the entries so far
}

// Open makes a tree of what is on a disk: ErrCorrupt, if that is none. It looks
// at every node, so that the calls of a tree need not doubt what they read.
func Open(d *disk.Disk) (*Tree, api.Errno) {
	t := &Tree{disk: d}
	// This key is the last one ahead of Key{}: from there on all entries stand.
	s := &survey{tree: t, seen: make([]bool, d.Sectors()), last: Key{0, -1}}
	s.seen[headSector] = true
	root, e := t.root()
	if e != api.OK {
		return nil, e
	}
	if root != none {
		if _, _, e := s.look(root); e != api.OK {
			return nil, e
		}
	}
	// From the last one down, so that the first ones are taken first.
	for i := len(s.seen) - 1; i >= 0; i-- {
		if !s.seen[i] {
			t.free = append(t.free, i)
		}
	}
	return t, api.OK
}

// look looks through a node and all that is under it. It answers the node, and
// how many nodes stand below one another there. It ends, as no sector is seen twice.
func (s *survey) look(sector int) (node, int, api.Errno) {
	if sector >= len(s.seen) || s.seen[sector] {
		return nil, 0, api.ErrCorrupt
	}
	s.seen[sector] = true
	n, e := s.tree.read(sector)
	if e != api.OK {
		return nil, 0, e
	}
	height := 0
	switch n := n.(type) {
	case leaf:
		if n.first().Compare(s.last) <= 0 {
			return nil, 0, api.ErrCorrupt
		}
		s.last = n.last()
	case branch:
		height, e = s.lookUnder(n)
	}
	if e != api.OK {
		return nil, 0, e
	}
	return n, height + 1, api.OK
}

// lookUnder looks through all that is under a branch, and answers its height.
func (s *survey) lookUnder(b branch) (int, api.Errno) {
	height := 0
	for i, child := range b.row {
		n, h, e := s.look(child.Value)
		if e != api.OK {
			return 0, e
		}
		if n.poor() || n.first() != child.Key || i > 0 && h != height {
			return 0, api.ErrCorrupt
		}
		height = h
	}
	return height, api.OK
}
