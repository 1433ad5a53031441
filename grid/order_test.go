package grid

import (
	"cmp"
	"slices"
	"testing"

	"quarto/api"
)

// cellsOfCodes tells all cells that have one of the first codes, each once, by their places.
func cellsOfCodes(codes int) []api.Cell {
	var cells []api.Cell
	for code := range codes {
		for size := 0; size <= top; size++ {
			cells = append(cells, around(code, size))
		}
	}
	slices.SortFunc(cells, func(a api.Cell, b api.Cell) int { return cmp.Compare(Place(a), Place(b)) })
	return slices.Compact(cells)
}

func TestPlacesOfCells(t *testing.T) {
	for _, c := range append(cellsOfCodes(70), api.Cell{Code: Codes - 1}, api.Cell{Code: 3 << 30, Size: 15}) {
		if p := Place(c); p < 0 || p >= Places || CellAt(p) != c {
			t.Errorf("the place of %v is %d, and there is %v", c, p, CellAt(p))
		}
	}
}

// TestOrderOfCells holds that what is within a cell stands right behind it.
func TestOrderOfCells(t *testing.T) {
	cells := cellsOfCodes(70)
	for i, outer := range cells {
		inside := true
		for _, c := range cells[i+1:] {
			within := c.Code >= outer.Code && End(c) <= End(outer)
			if within && !inside {
				t.Fatalf("%v is within %v, but does not stand right behind it", c, outer)
			}
			inside = within
		}
		for _, c := range cells[:i] {
			if c.Code >= outer.Code && End(c) <= End(outer) {
				t.Fatalf("%v is within %v, but stands ahead of it", c, outer)
			}
		}
	}
}

func TestNextCellOfSmallWindows(t *testing.T) {
	cells := cellsOfCodes(64)
	for _, w := range []api.Rect{
		{}, {X1: 7, Y1: 7, X2: 7, Y2: 7}, {X2: 7, Y2: 7}, {X1: 3, Y1: 0, X2: 3, Y2: 7},
		{X1: 3, Y1: 3, X2: 4, Y2: 4}, {X1: 6, Y1: 1, X2: 7, Y2: 2}, {X1: 0, Y1: 5, X2: 6, Y2: 5},
	} {
		for code := range 64 {
			want := slices.IndexFunc(cells, func(c api.Cell) bool { return c.Code >= code && Meet(Square(c), w) })
			got, ok := NextCell(code, w)
			if ok != (want >= 0) || ok && got != cells[want] {
				t.Errorf("NextCell(%d, %v) = %v, %v", code, w, got, ok)
			}
		}
	}
}

func TestNextCellAtTheEnds(t *testing.T) {
	whole := api.Rect{X2: api.Grid - 1, Y2: api.Grid - 1}
	if c, ok := NextCell(0, whole); c != (api.Cell{Size: top}) || !ok {
		t.Errorf("the first cell of all is %v, %v", c, ok)
	}
	if c, ok := NextCell(Codes-1, whole); c != (api.Cell{Code: Codes - 1}) || !ok {
		t.Errorf("the last cell of all is %v, %v", c, ok)
	}
	if c, ok := NextCell(Codes, whole); ok {
		t.Errorf("behind all codes there is %v", c)
	}
}
