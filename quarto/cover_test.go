package quarto_test

import (
	"math/rand"
	"slices"
	"testing"

	"quarto/api"
	"quarto/quarto"
)

// rect makes a rectangle in the order in which the document tells its numbers.
func rect(x1 int, y1 int, x2 int, y2 int) api.Rect {
	return api.Rect{X1: x1, Y1: y1, X2: x2, Y2: y2}
}

// wrongRects tells rectangles that are not right, in every way: each number off
// the grid, each pair turned round, and several of these at once.
func wrongRects() []api.Rect {
	list := []api.Rect{
		rect(1, 0, 0, 0), rect(0, 1, 0, 0), rect(5, 2, 4, 9), rect(2, 9, 5, 8), rect(last, 0, 0, last), rect(0, last, last, 0), rect(9, 9, 8, 8),
		rect(-1, 0, last, last), rect(0, -1, last, last), rect(0, 0, api.Grid, last), rect(0, 0, last, api.Grid),
		rect(-3, -3, -2, -2), rect(api.Grid, api.Grid, api.Grid, api.Grid),
	}
	for _, n := range wrongNumbers {
		list = append(list, rect(n, 3, 4, 5), rect(3, n, 4, 5), rect(3, 4, n, 5), rect(3, 4, 5, n), rect(n, 3, n, 5), rect(3, n, 5, n), rect(n, n, n, n))
	}
	return list
}

// coverOf tells the cells of a small rectangle point by point, as the document defines them.
func coverOf(r api.Rect) []api.Cell {
	for k := 0; ; k++ {
		columns, rows := map[int]int{}, map[int]int{}
		var cells []api.Cell
		for x := r.X1; x <= r.X2; x++ {
			for y := r.Y1; y <= r.Y2; y++ {
				columns[x>>k]++
				rows[y>>k]++
				cell := api.Cell{Code: codeOf(x>>k<<k, y>>k<<k), Size: k}
				if !slices.Contains(cells, cell) {
					cells = append(cells, cell)
				}
			}
		}
		if len(columns) <= 2 && len(rows) <= 2 {
			slices.SortFunc(cells, func(a api.Cell, b api.Cell) int { return a.Code - b.Code })
			return cells
		}
	}
}

// smallRects tells all rectangles within a square of the grid that begins at a point.
func smallRects(x int, y int, wide int) []api.Rect {
	var list []api.Rect
	for x1 := range wide {
		for x2 := x1; x2 < wide; x2++ {
			for y1 := range wide {
				for y2 := y1; y2 < wide; y2++ {
					list = append(list, rect(x+x1, y+y1, x+x2, y+y2))
				}
			}
		}
	}
	return list
}

func TestCoverOfChosenRectangles(t *testing.T) {
	for _, c := range []struct {
		r    api.Rect
		want []api.Cell
	}{
		{rect(0, 0, 0, 0), []api.Cell{{Code: 0, Size: 0}}},
		{rect(1, 0, 2, 0), []api.Cell{{Code: 1, Size: 0}, {Code: 4, Size: 0}}},
		{rect(1, 0, 3, 0), []api.Cell{{Code: 0, Size: 1}, {Code: 4, Size: 1}}},
		{rect(32767, 5, 32768, 5), []api.Cell{{Code: 357913975, Size: 0}, {Code: 1<<30 + 34, Size: 0}}},
		{rect(0, 0, last, last), []api.Cell{{Code: 0, Size: 15}, {Code: 1 << 30, Size: 15}, {Code: 1 << 31, Size: 15}, {Code: 3 << 30, Size: 15}}},
		{rect(0, 0, last, 0), []api.Cell{{Code: 0, Size: 15}, {Code: 1 << 30, Size: 15}}},
		{rect(last, 0, last, last), []api.Cell{{Code: 1 << 30, Size: 15}, {Code: 3 << 30, Size: 15}}},
		{rect(1, 0, 2, 1), []api.Cell{{Code: 1}, {Code: 3}, {Code: 4}, {Code: 6}}},
		{rect(0, 1, 1, 2), []api.Cell{{Code: 2}, {Code: 3}, {Code: 8}, {Code: 9}}},
		{rect(3, 3, 4, 4), []api.Cell{{Code: 15}, {Code: 26}, {Code: 37}, {Code: 48}}},
		{rect(last, 0, last, 0), []api.Cell{{Code: 0x55555555}}},
		{rect(0, last, 0, last), []api.Cell{{Code: 0xaaaaaaaa}}},
		{rect(last, last, last, last), []api.Cell{{Code: codes - 1}}},
		{rect(last-1, last-1, last, last), []api.Cell{{Code: codes - 4}, {Code: codes - 3}, {Code: codes - 2}, {Code: codes - 1}}},
		{rect(1, 1, last, last), []api.Cell{{Code: 0, Size: 15}, {Code: 1 << 30, Size: 15}, {Code: 1 << 31, Size: 15}, {Code: 3 << 30, Size: 15}}},
		{rect(0, 0, 32767, 32767), []api.Cell{{Code: 0, Size: 14}, {Code: 1 << 28, Size: 14}, {Code: 1 << 29, Size: 14}, {Code: 3 << 28, Size: 14}}},
	} {
		got, e := quarto.Cover(c.r)
		if e != api.OK || !slices.Equal(got, c.want) {
			t.Errorf("P4: Cover(%v) = %v, %d, want %v", c.r, got, e, c.want)
		}
	}
}

func TestCoverOfSmallRectangles(t *testing.T) {
	for _, at := range [][2]int{{0, 0}, {last - 8, last - 8}, {32763, 32763}, {0, last - 8}, {21842, 43686}} {
		for _, r := range smallRects(at[0], at[1], 9) {
			got, e := quarto.Cover(r)
			if want := coverOf(r); e != api.OK || !slices.Equal(got, want) {
				t.Fatalf("P4: Cover(%v) = %v, %d, want %v", r, got, e, want)
			}
		}
	}
}

func TestCoverOfPoints(t *testing.T) {
	r := rand.New(rand.NewSource(7))
	for range 2000 {
		x, y := r.Intn(api.Grid), r.Intn(api.Grid)
		got, e := quarto.Cover(rect(x, y, x, y))
		if want := []api.Cell{{Code: codeOf(x, y)}}; e != api.OK || !slices.Equal(got, want) {
			t.Fatalf("P4: Cover of the point %d, %d: %v, %d, want %v", x, y, got, e, want)
		}
	}
}

func TestCoverOfWrongRectangles(t *testing.T) {
	for _, r := range wrongRects() {
		if got, e := quarto.Cover(r); len(got) != 0 || e != api.ErrRect {
			t.Errorf("P4: Cover(%v) = %v, %d, want nothing and ErrRect", r, got, e)
		}
	}
}

func TestCoverIsNewMemory(t *testing.T) {
	r := rect(3, 3, 5, 4)
	first, _ := quarto.Cover(r)
	second, _ := quarto.Cover(r)
	want := slices.Clone(second)
	for i := range first[:cap(first)] {
		first[:cap(first)][i] = api.Cell{Code: -7, Size: -7}
	}
	third, _ := quarto.Cover(r)
	if !slices.Equal(second, want) || !slices.Equal(third, want) {
		t.Errorf("P2: what was done to an answer is seen in others: %v, %v, want %v", second, third, want)
	}
}
