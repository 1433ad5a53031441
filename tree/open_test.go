package tree

import (
	"slices"
	"testing"

	"quarto/api"
	"quarto/disk"
)

const sectors = api.MinSectors

func newDisk(t *testing.T) *disk.Disk {
	t.Helper()
	d, e := disk.New(sectors)
	if e != api.OK {
		t.Fatal(e)
	}
	return d
}

// lay makes a disk of a root and of nodes by their sectors.
func lay(t *testing.T, root int, nodes map[int]node) *disk.Disk {
	t.Helper()
	d := newDisk(t)
	d.Write(headSector, headBytes(root))
	for sector, n := range nodes {
		if e := d.Write(sector, n.bytes()); e != api.OK {
			t.Fatal(e)
		}
	}
	return d
}

func wantOpen(t *testing.T, d *disk.Disk) *Tree {
	t.Helper()
	tree, e := Open(d)
	if e != api.OK {
		t.Fatalf("Open: %d", e)
	}
	return tree
}

// low is a branch of seven leaves of five keys, from a second number and a sector on.
func low(nodes map[int]node, number int, sector int) branch {
	var b branch
	for i := range 7 {
		nodes[sector+i] = leafFrom(number+5*i, 5)
		b.row = append(b.row, pair[int]{Key{1, number + 5*i}, sector + i})
	}
	return b
}

// high lays a tree that is three nodes high: the root in sector 1, two branches in 2 and 3.
func high() map[int]node {
	nodes := map[int]node{1: branchOf([2]int{0, 2}, [2]int{35, 3})}
	nodes[2] = low(nodes, 0, 10)
	nodes[3] = low(nodes, 35, 20)
	return nodes
}

func TestOpenOfTreesThatAreRight(t *testing.T) {
	for name, c := range map[string]struct {
		root  int
		nodes map[int]node
	}{
		"nothing":            {none, nil},
		"what nothing leads": {none, map[int]node{7: leafOf(1)}},
		"a leaf of one":      {7, map[int]node{7: leafOf(1)}},
		"the last sector":    {sectors - 1, map[int]node{sectors - 1: leafOf(0)}},
		"two leaves":         {1, map[int]node{1: branchOf([2]int{0, 3}, [2]int{5, 2}), 3: leafFrom(0, 5), 2: leafFrom(5, 5)}},
		"three high":         {1, high()},
	} {
		tree, e := Open(lay(t, c.root, c.nodes))
		if e != api.OK {
			t.Errorf("Open of %s: %d", name, e)
			continue
		}
		for i := range sectors {
			_, used := c.nodes[i]
			if free := i != headSector && (!used || c.root == none); slices.Contains(tree.free, i) != free {
				t.Errorf("Open of %s: is sector %d free? %v", name, i, !free)
			}
		}
	}
}

func TestOpenOfTreesThatAreWrong(t *testing.T) {
	five, six := leafFrom(0, 5), leafFrom(5, 5)
	two := func(a int, b int) branch { return branchOf([2]int{0, a}, [2]int{5, b}) }
	uneven := high()
	uneven[3] = leafFrom(35, 5)
	shared := high()
	shared[3].(branch).row[6].Value = 10
	far := high()
	far[2].(branch).row[3].Value = sectors
	poor := high()
	poor[3] = branch{poor[3].(branch).row[:6]}
	overlap := high()
	overlap[16] = leafOf(30, 31, 32, 33, 35)
	broken := high()
	delete(broken, 26)
	for name, c := range map[string]struct {
		root  int
		nodes map[int]node
	}{
		"a root that is no sector":      {sectors, nil},
		"a root that is no node":        {9, nil},
		"a second number below 0":       {1, map[int]node{1: leaf{row[api.Rect]{{Key{0, -1}, aRect(1)}}}}},
		"a first number below 0":        {1, map[int]node{1: leaf{row[api.Rect]{{Key{-1, 5}, aRect(1)}}}}},
		"the same leaf twice":           {1, map[int]node{1: two(2, 2), 2: five}},
		"the root below itself":         {1, map[int]node{1: two(2, 1), 2: five}},
		"the head below the root":       {1, map[int]node{1: two(2, headSector), 2: five}},
		"a key that is not the first":   {1, map[int]node{1: two(2, 3), 2: five, 3: leafFrom(6, 5)}},
		"a first key that is too great": {1, map[int]node{1: two(2, 3), 2: leafFrom(1, 4), 3: six}},
		"a first leaf that is poor":     {1, map[int]node{1: two(2, 3), 2: leafFrom(0, 4), 3: six}},
		"a last leaf that is poor":      {1, map[int]node{1: two(2, 3), 2: five, 3: leafFrom(5, 4)}},
		"leaves that overlap":           {1, map[int]node{1: two(2, 3), 2: leafFrom(0, 7), 3: six}},
		"leaves that touch":             {1, map[int]node{1: two(2, 3), 2: leafFrom(0, 6), 3: six}},
		"leaves of two heights":         {1, uneven},
		"a leaf under two branches":     {1, shared},
		"a sector that there is not":    {1, far},
		"a branch that is poor":         {1, poor},
		"branches that overlap":         {1, overlap},
		"a leaf that is not there":      {1, broken},
	} {
		if tree, e := Open(lay(t, c.root, c.nodes)); tree != nil || e != api.ErrCorrupt {
			t.Errorf("Open of %s: %d", name, e)
		}
	}
}

func TestOpenOfAHeadThatIsNone(t *testing.T) {
	d := newDisk(t)
	d.Write(headSector, leafOf(1).bytes())
	if tree, e := Open(d); tree != nil || e != api.ErrCorrupt {
		t.Errorf("Open: %d", e)
	}
}

func TestOpenOfABrokenDisk(t *testing.T) {
	d := lay(t, sectors, nil)
	d.Break(0)
	if tree, e := Open(d); tree != nil || e != api.ErrBroken {
		t.Errorf("Open: %d", e)
	}
}
