package tree

import "quarto/api"

// node is what was read of a sector: a leaf or a branch.
type node interface {
	// first tells the least key in it.
	first() Key
	// sound tells whether it has enough to stand by itself, in order.
	sound() bool
	// poor tells whether it has too little to stand under a branch.
	poor() bool
	// parts answers the nodes that it is kept in: none, if it is empty, two, if it has too much for one.
	parts() []node
	// join answers a node that has what is behind it, too: that is of the same
	// kind, since Open has seen that all leaves stand at one height.
	join(behind node) node
	// bytes tells what is written of it.
	bytes() string
}

// So many pairs a sector holds; half of them is the least under a branch, so
// that what is split stands, and what is poor fits beside the least one.
const (
	leafMost   = (api.Sector - startSize) / (keySize + rectSize)
	branchMost = (api.Sector - startSize) / (keySize + sectorSize)
)

// leaf has entries.
type leaf struct {
	row[api.Rect]
}

func (l leaf) sound() bool { return len(l.row) > 0 && l.rising() }

func (l leaf) poor() bool { return len(l.row) < leafMost/2 }

func (l leaf) parts() []node {
	return parts(l.row, leafMost, func(r row[api.Rect]) node { return leaf{r} })
}

func (l leaf) join(behind node) node {
	if other, ok := behind.(leaf); ok {
		return leaf{l.swap(len(l.row), len(l.row), other.row...)}
	}
	return l
}

// with answers a leaf that has an entry, in place of one with its key.
func (l leaf) with(e Entry) leaf {
	from, found := l.find(e.Key)
	to := from
	if found {
		to++
	}
	return leaf{l.swap(from, to, e)}
}

// without answers a leaf that has no entry with a key.
func (l leaf) without(key Key) leaf {
	i, found := l.find(key)
	if !found {
		return l
	}
	return leaf{l.swap(i, i+1)}
}

// branch has the sectors of other nodes, each by the least key in it.
type branch struct {
	row[int]
}

// sound asks for two nodes, since one that is poor is joined with another.
func (b branch) sound() bool { return len(b.row) > 1 && b.rising() }

func (b branch) poor() bool { return len(b.row) < branchMost/2 }

func (b branch) parts() []node {
	return parts(b.row, branchMost, func(r row[int]) node { return branch{r} })
}

func (b branch) join(behind node) node {
	if other, ok := behind.(branch); ok {
		return branch{b.swap(len(b.row), len(b.row), other.row...)}
	}
	return b
}

// under tells the place of the node in which a key is, or would be put.
func (b branch) under(key Key) int {
	i, found := b.find(key)
	if !found && i > 0 {
		i--
	}
	return i
}
