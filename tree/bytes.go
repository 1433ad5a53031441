package tree

import (
	"strings"

	"quarto/api"
)

// A sector starts with its kind. The kind of the head is 0, so that a sector of
// bytes that are all 0 is the head of a tree that has no entries.
const (
	headKind = iota
	leafKind
	branchKind
)

// How many bytes things have in a sector; a node starts with its kind and the number of its pairs.
const (
	startSize  = 2
	numberSize = 8
	keySize    = 2 * numberSize
	placeSize  = 2
	rectSize   = 4 * placeSize
	sectorSize = 2
)

// ink is bytes to be written.
type ink []byte

// number adds a number, its lowest byte first.
func (b *ink) number(n int, size int) {
	for range size {
		*b = append(*b, byte(n))
		n >>= 8
	}
}

func (b *ink) key(k Key) {
	for _, n := range k {
		b.number(n, numberSize)
	}
}

func (b *ink) rect(r api.Rect) {
	for _, n := range [...]int{r.X1, r.Y1, r.X2, r.Y2} {
		b.number(n, placeSize)
	}
}

func (b *ink) sector(n int) { b.number(n, sectorSize) }

// page tells the bytes as those of a whole sector.
func (b *ink) page() string {
	return string(*b) + strings.Repeat("\x00", api.Sector-len(*b))
}

// text is bytes that were read, and are not yet looked at.
type text string

// number takes a number off the bytes.
func (t *text) number(size int) int {
	n := 0
	for i := range size {
		n |= int((*t)[i]) << (8 * i)
	}
	*t = (*t)[size:]
	return n
}

func (t *text) key() Key {
	first := t.number(numberSize)
	return Key{first, t.number(numberSize)}
}

func (t *text) rect() api.Rect {
	var r api.Rect
	for _, n := range [...]*int{&r.X1, &r.Y1, &r.X2, &r.Y2} {
		*n = t.number(placeSize)
	}
	return r
}

func (t *text) sector() int { return t.number(sectorSize) }

func (l leaf) bytes() string {
	return nodeBytes(leafKind, l.row, func(b *ink, r api.Rect) { b.rect(r) })
}

func (b branch) bytes() string {
	return nodeBytes(branchKind, b.row, func(b *ink, sector int) { b.sector(sector) })
}

// nodeBytes tells the bytes of a node that has these pairs.
func nodeBytes[V any](kind int, r row[V], value func(*ink, V)) string {
	var b ink
	b.number(kind, 1)
	b.number(len(r), 1)
	for _, p := range r {
		b.key(p.Key)
		value(&b, p.Value)
	}
	return b.page()
}

// pairs takes pairs off the bytes.
func pairs[V any](t *text, count int, value func(*text) V) row[V] {
	var r row[V]
	for range count {
		key := t.key()
		r = append(r, pair[V]{key, value(t)})
	}
	return r
}

// readNode tells the node that a sector has, and whether it has one.
func readNode(sector string) (node, bool) {
	var n node
	t := text(sector)
	kind, count := t.number(1), t.number(1)
	switch kind {
	case leafKind:
		n = leaf{pairs(&t, min(count, leafMost), func(t *text) api.Rect { return t.rect() })}
	case branchKind:
		n = branch{pairs(&t, min(count, branchMost), func(t *text) int { return t.sector() })}
	default:
		return nil, false
	}
	// What would be written otherwise was never written.
	return n, n.sound() && n.bytes() == sector
}

// headBytes tells the bytes of the head of a tree that has this root.
func headBytes(root int) string {
	var b ink
	b.number(headKind, 1)
	b.sector(root)
	return b.page()
}

// readHead tells the root that a sector has as a head, and whether it is one.
func readHead(sector string) (int, bool) {
	t := text(sector)
	t.number(1)
	root := t.sector()
	return root, headBytes(root) == sector
}
