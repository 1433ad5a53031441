package index

import (
	"slices"

	"quarto/api"
	"quarto/grid"
)

func (x *Index) find(id int) (api.Rect, api.Errno) {
	for entry, e := range x.tree.From(numberKey(id)) {
		if e != api.OK {
			return api.Rect{}, e
		}
		if entry.Key == numberKey(id) {
			return entry.Value, api.OK
		}
		break
	}
	return api.Rect{}, api.ErrMissing
}

func (x *Index) count() (int, api.Errno) {
	n := 0
	for _, e := range x.tree.From(numberKey(0)) {
		if e != api.OK {
			return 0, e
		}
		n++
	}
	return n, api.OK
}

// search looks at the entries whose cells meet the window, by the order of
// these. Where one does not meet it, none within it does: so the look goes on
// at the next one that may.
func (x *Index) search(w api.Rect) ([]int, api.Errno) {
	var ids []int
	cell, more := grid.NextCell(0, w)
leaps:
	for more {
		for entry, e := range x.tree.From(cellKey(cell, 0)) {
			if e != api.OK {
				return nil, e
			}
			if entry.Key[0] == numbers {
				break leaps
			}
			cell = grid.CellAt(entry.Key[0])
			if !grid.Meet(grid.Square(cell), w) {
				cell, more = grid.NextCell(grid.End(cell), w)
				continue leaps
			}
			if grid.Meet(entry.Value, w) {
				ids = append(ids, entry.Key[1])
			}
		}
		break
	}
	// A rectangle has been found in each of its cells that meet the window.
	slices.Sort(ids)
	return slices.Compact(ids), api.OK
}
