package tree

import (
	"strings"
	"testing"

	"quarto/api"
)

// aRect tells some rectangle, another one for each number.
func aRect(i int) api.Rect {
	return api.Rect{X1: i, Y1: i + 1, X2: api.Grid - 1 - i, Y2: api.Grid - 1}
}

// leafOf makes a leaf whose keys have these second numbers.
func leafOf(numbers ...int) leaf {
	var l leaf
	for _, n := range numbers {
		l.row = append(l.row, Entry{Key{1, n}, aRect(1)})
	}
	return l
}

// leafFrom makes a leaf with so many keys, from a second number on.
func leafFrom(first int, count int) leaf {
	var numbers []int
	for i := range count {
		numbers = append(numbers, first+i)
	}
	return leafOf(numbers...)
}

// branchOf makes a branch of sectors, each with the second number of its first key.
func branchOf(pairs ...[2]int) branch {
	var b branch
	for _, p := range pairs {
		b.row = append(b.row, pair[int]{Key{1, p[0]}, p[1]})
	}
	return b
}

func TestNodesAreReadAsTheyWereWritten(t *testing.T) {
	long := leafFrom(0, leafMost)
	for i := range long.row {
		long.row[i].Value = aRect(i)
	}
	wide := branch{}
	for i := range branchMost {
		wide.row = append(wide.row, pair[int]{Key{i, 1 << 62}, api.MaxSectors - 1 - i})
	}
	for _, n := range []node{leafOf(7), long, branchOf([2]int{0, 1}, [2]int{1, 4095}), wide, leaf{row[api.Rect]{{Key{1 << 62, 0}, api.Rect{}}}}} {
		bytes := n.bytes()
		got, ok := readNode(bytes)
		if len(bytes) != api.Sector || !ok || got.bytes() != bytes || got.first() != n.first() {
			t.Errorf("%v is read as %v, %v", n, got, ok)
		}
	}
	if got, _ := readNode(long.bytes()); got.(leaf).row[3] != (Entry{Key{1, 3}, aRect(3)}) {
		t.Errorf("a leaf's entry is read as %v", got.(leaf).row[3])
	}
	if got, _ := readNode(wide.bytes()); got.(branch).row[3] != (pair[int]{Key{3, 1 << 62}, 4092}) {
		t.Errorf("a branch's pair is read as %v", got.(branch).row[3])
	}
}

// with answers bytes with another one at a place.
func with(bytes string, at int, b byte) string {
	return bytes[:at] + string([]byte{b}) + bytes[at+1:]
}

func TestSectorsThatAreNoNodes(t *testing.T) {
	five := leafFrom(0, 5).bytes()
	two := branchOf([2]int{0, 1}, [2]int{1, 2}).bytes()
	for name, bytes := range map[string]string{
		"all 0":                       strings.Repeat("\x00", api.Sector),
		"all 255":                     strings.Repeat("\xff", api.Sector),
		"a head":                      headBytes(7),
		"an unknown kind":             with(five, 0, 3),
		"a leaf without entries":      leaf{}.bytes(),
		"a leaf of too many":          with(leafFrom(0, leafMost).bytes(), 1, leafMost+1),
		"a leaf of fewer than it has": with(five, 1, 4),
		"a leaf of more than it has":  with(five, 1, 6),
		"a leaf and a byte more":      with(five, api.Sector-1, 1),
		"a leaf that falls":           leafOf(1, 3, 2).bytes(),
		"a leaf with a key twice":     leafOf(1, 2, 2).bytes(),
		"a branch of none":            branch{}.bytes(),
		"a branch of one":             branchOf([2]int{0, 1}).bytes(),
		"a branch of too many":        with(two, 1, 255),
		"a branch that falls":         branchOf([2]int{2, 1}, [2]int{1, 2}).bytes(),
		"a branch with a key twice":   branchOf([2]int{1, 1}, [2]int{1, 2}).bytes(),
		"a branch and a byte more":    with(two, api.Sector-1, 1),
	} {
		if n, ok := readNode(bytes); ok {
			t.Errorf("%s is read as %v", name, n)
		}
	}
}

func TestHeads(t *testing.T) {
	for _, root := range []int{0, 1, 255, 256, 4095} {
		if got, ok := readHead(headBytes(root)); got != root || !ok || len(headBytes(root)) != api.Sector {
			t.Errorf("the head of the root %d is read as %d, %v", root, got, ok)
		}
	}
	if root, ok := readHead(strings.Repeat("\x00", api.Sector)); root != none || !ok {
		t.Errorf("bytes that are all 0 are read as a head of %d, %v", root, ok)
	}
	for _, bytes := range []string{leafOf(1).bytes(), with(headBytes(7), 0, branchKind), with(headBytes(7), 3, 1), with(headBytes(0), api.Sector-1, 255)} {
		if root, ok := readHead(bytes); ok {
			t.Errorf("%.6q.. is read as a head of %d", bytes, root)
		}
	}
}

func TestOrderOfKeys(t *testing.T) {
	rising := []Key{{}, {0, 1}, {0, 1 << 62}, {1, 0}, {1, 1}, {1 << 40, 0}, {1 << 40, 5}}
	for i, a := range rising {
		for j, b := range rising {
			if got := a.Compare(b); got < 0 != (i < j) || got > 0 != (i > j) {
				t.Errorf("%v beside %v: %d", a, b, got)
			}
		}
	}
}
