package index

import (
	"slices"

	"quarto/api"
	"quarto/disk"
	"quarto/grid"
	"quarto/tree"
)

// Open makes an index of what is on a disk.
func Open(d *disk.Disk) (*Index, api.Errno) {
	t, e := tree.Open(d)
	if e != api.OK {
		return nil, e
	}
	if e := check(t); e != api.OK {
		return nil, e
	}
	// What was read may be not safe yet, but a change counts on it.
	if e := d.Flush(); e != api.OK {
		return nil, e
	}
	return &Index{tree: t}, api.OK
}

// check tells whether the entries of a tree are just those of the rectangles
// that it has by their numbers.
func check(t *tree.Tree) api.Errno {
	var have, want []tree.Entry
	for entry, e := range t.From(tree.Key{}) {
		if e != api.OK {
			return e
		}
		have = append(have, entry)
		if entry.Key[0] < numbers {
			continue
		}
		if !isId(entry.Key[1]) || !grid.Right(entry.Value) {
			return api.ErrCorrupt
		}
		want = append(want, entries(entry.Key[1], entry.Value)...)
	}
	slices.SortFunc(want, func(a tree.Entry, b tree.Entry) int { return a.Key.Compare(b.Key) })
	if !slices.Equal(have, want) {
		return api.ErrCorrupt
	}
	return api.OK
}
