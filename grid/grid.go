// Package grid: points, codes and cells, and what rectangles have in common.
package grid

import (
	"cmp"
	"iter"
	"slices"

	"quarto/api"
)

// Codes is how many codes there are: all of them are below it.
const Codes = api.Grid * api.Grid

// top is the size of the cell that is the whole grid, and so the number of bits of a coordinate.
const top = 16

// OnGrid tells whether there is such a point.
func OnGrid(x int, y int) bool {
	return 0 <= x && x < api.Grid && 0 <= y && y < api.Grid
}

// Right tells whether a rectangle is right.
func Right(r api.Rect) bool {
	return OnGrid(r.X1, r.Y1) && OnGrid(r.X2, r.Y2) && r.X1 <= r.X2 && r.Y1 <= r.Y2
}

// Code tells the code of a point of the grid.
func Code(x int, y int) int {
	code := 0
	for i := range top {
		code |= (x >> i & 1) << (2 * i)
		code |= (y >> i & 1) << (2*i + 1)
	}
	return code
}

// point tells the point that has a code.
func point(code int) (int, int) {
	x, y := 0, 0
	for i := range top {
		x |= (code >> (2 * i) & 1) << i
		y |= (code >> (2*i + 1) & 1) << i
	}
	return x, y
}

// Square tells the points of a cell.
func Square(c api.Cell) api.Rect {
	x, y := point(c.Code)
	last := 1<<c.Size - 1
	return api.Rect{X1: x, Y1: y, X2: x + last, Y2: y + last}
}

// Meet tells whether two right rectangles have a point in common.
func Meet(a api.Rect, b api.Rect) bool {
	_, ok := common(a, b)
	return ok
}

// common tells the points that two right rectangles have in common, and whether there are any.
func common(a api.Rect, b api.Rect) (api.Rect, bool) {
	both := api.Rect{
		X1: max(a.X1, b.X1), Y1: max(a.Y1, b.Y1),
		X2: min(a.X2, b.X2), Y2: min(a.Y2, b.Y2),
	}
	if !Right(both) {
		return api.Rect{}, false
	}
	return both, true
}

// Cover tells the cells of a right rectangle, by rising codes.
func Cover(r api.Rect) []api.Cell {
	k := coverSize(r)
	var cells []api.Cell
	for column := r.X1 >> k; column <= r.X2>>k; column++ {
		for row := r.Y1 >> k; row <= r.Y2>>k; row++ {
			cells = append(cells, api.Cell{Code: Code(column<<k, row<<k), Size: k})
		}
	}
	// Neither rows nor columns are in the order of their codes: where the four
	// lie in different larger cells, the codes jump from one of these to the next.
	slices.SortFunc(cells, func(a api.Cell, b api.Cell) int { return cmp.Compare(a.Code, b.Code) })
	return cells
}

// coverSize tells the size of a right rectangle's cells; it ends, since all of the grid is in one cell of size top.
func coverSize(r api.Rect) int {
	k := 0
	for r.X2>>k-r.X1>>k > 1 || r.Y2>>k-r.Y1>>k > 1 {
		k++
	}
	return k
}

// Next tells the least code, from this one on, of a point of a right window; -1, if there is none.
func Next(code int, w api.Rect) int {
	for cell := range cellsFrom(code) {
		// Codes rise with x and with y, so the first corner has the least one.
		if both, ok := common(Square(cell), w); ok {
			return Code(both.X1, both.Y1)
		}
	}
	return -1
}

// cellsFrom tells cells that have, together, all codes from this one on, by rising codes.
// They are few: of each size at most the three that stand behind the code in a cell of the next size.
func cellsFrom(code int) iter.Seq[api.Cell] {
	return func(yield func(api.Cell) bool) {
		if !yield(api.Cell{Code: code}) {
			return
		}
		for k := range top {
			for place := code>>(2*k) + 1; place%4 != 0; place++ {
				if !yield(api.Cell{Code: place << (2 * k), Size: k}) {
					return
				}
			}
		}
	}
}
