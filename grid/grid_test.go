package grid

import (
	"testing"

	"quarto/api"
)

func TestPointIsTheOtherWayOfCode(t *testing.T) {
	for _, p := range [][2]int{{0, 0}, {1, 0}, {0, 1}, {3, 5}, {32767, 32768}, {65535, 0}, {0, 65535}, {65535, 65535}, {0x1234, 0xfedc}} {
		if x, y := point(Code(p[0], p[1])); x != p[0] || y != p[1] {
			t.Errorf("point(Code(%d, %d)) = %d, %d", p[0], p[1], x, y)
		}
	}
}

func TestSquare(t *testing.T) {
	for _, c := range []struct {
		cell api.Cell
		want api.Rect
	}{
		{api.Cell{}, api.Rect{}},
		{api.Cell{Code: 0, Size: 16}, api.Rect{X2: 65535, Y2: 65535}},
		{api.Cell{Code: 12, Size: 1}, api.Rect{X1: 2, Y1: 2, X2: 3, Y2: 3}},
		{api.Cell{Code: 3 << 30, Size: 15}, api.Rect{X1: 32768, Y1: 32768, X2: 65535, Y2: 65535}},
	} {
		if got := Square(c.cell); got != c.want {
			t.Errorf("Square(%v) = %v, want %v", c.cell, got, c.want)
		}
	}
}

func TestCommon(t *testing.T) {
	a := api.Rect{X1: 2, Y1: 2, X2: 9, Y2: 5}
	for _, c := range []struct {
		b, want api.Rect
		ok      bool
	}{
		{a, a, true},
		{api.Rect{X1: 9, Y1: 5, X2: 20, Y2: 20}, api.Rect{X1: 9, Y1: 5, X2: 9, Y2: 5}, true},
		{api.Rect{X1: 4, Y1: 0, X2: 5, Y2: 65535}, api.Rect{X1: 4, Y1: 2, X2: 5, Y2: 5}, true},
		{api.Rect{X1: 10, Y1: 2, X2: 20, Y2: 5}, api.Rect{}, false},
		{api.Rect{X1: 0, Y1: 0, X2: 1, Y2: 65535}, api.Rect{}, false},
		{api.Rect{X1: 2, Y1: 6, X2: 9, Y2: 6}, api.Rect{}, false},
	} {
		got, ok := common(a, c.b)
		turned, same := common(c.b, a)
		if got != c.want || ok != c.ok || turned != c.want || same != c.ok {
			t.Errorf("common(%v, %v) = %v, %v, turned round %v, %v, want %v, %v", a, c.b, got, ok, turned, same, c.want, c.ok)
		}
	}
}

// TestCellsFromAreSeamless holds that the cells follow on one another up to the last code, each a cell of the grid.
func TestCellsFromAreSeamless(t *testing.T) {
	for _, code := range []int{0, 1, 2, 3, 4, 5, 63, 64, 0x55555555, 0xaaaaaaaa, 1<<30 - 1, 1 << 31, Codes - 5, Codes - 1} {
		next := code
		for cell := range cellsFrom(code) {
			wide := 1 << (2 * cell.Size)
			if cell.Code != next || cell.Code%wide != 0 {
				t.Fatalf("from %d: the cell %v, where one at %d was due", code, cell, next)
			}
			next += wide
		}
		if next != Codes {
			t.Errorf("the cells from %d end at %d", code, next)
		}
	}
}

func TestCellsFromCanBeLeft(t *testing.T) {
	for stop := 1; stop < 20; stop++ {
		seen := 0
		for range cellsFrom(0) {
			seen++
			if seen == stop {
				break
			}
		}
		if seen != stop {
			t.Errorf("left at %d, but saw %d", stop, seen)
		}
	}
}
