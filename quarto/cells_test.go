package quarto_test

import (
	"math/rand"
	"testing"

	"quarto/api"
	"quarto/quarto"
)

// within tells whether all codes of a cell are codes of another one.
func within(inner api.Cell, outer api.Cell) bool {
	return outer.Code <= inner.Code && inner.Code+1<<(2*inner.Size) <= outer.Code+1<<(2*outer.Size)
}

// cellsOf tells the cells of a rectangle that is right.
func cellsOf(t *testing.T, r api.Rect) []api.Cell {
	t.Helper()
	cells, e := quarto.Cover(r)
	if e != api.OK || len(cells) == 0 {
		t.Fatalf("P4: Cover(%v) = %v, %d", r, cells, e)
	}
	return cells
}

// wantInOneCell asks how many of a rectangle's cells a point of it is in.
func wantInOneCell(t *testing.T, r api.Rect, x int, y int) {
	t.Helper()
	point := api.Cell{Code: quarto.Code(x, y)}
	in := 0
	for _, c := range cellsOf(t, r) {
		if within(point, c) {
			in++
		}
	}
	if in != 1 {
		t.Fatalf("P10: the point %d, %d is in %d cells of %v", x, y, in, r)
	}
}

// wantNested asks whether one of two rectangles has a cell within a cell of the other.
func wantNested(t *testing.T, a api.Rect, b api.Rect) {
	t.Helper()
	for _, c := range cellsOf(t, a) {
		for _, d := range cellsOf(t, b) {
			if within(c, d) || within(d, c) {
				return
			}
		}
	}
	t.Fatalf("P10: %v and %v meet, but no cell of one is within one of the other", a, b)
}

func meet(a api.Rect, b api.Rect) bool {
	return a.X1 <= b.X2 && b.X1 <= a.X2 && a.Y1 <= b.Y2 && b.Y1 <= a.Y2
}

func TestEachPointIsInOneCell(t *testing.T) {
	for _, at := range [][2]int{{0, 0}, {last - 6, last - 6}, {32764, 32765}} {
		for _, r := range smallRects(at[0], at[1], 7) {
			for x := r.X1; x <= r.X2; x++ {
				for y := r.Y1; y <= r.Y2; y++ {
					wantInOneCell(t, r, x, y)
				}
			}
		}
	}
	random := rand.New(rand.NewSource(13))
	for range 5000 {
		r := anyRect(random)
		for _, x := range []int{r.X1, r.X2, r.X1 + random.Intn(r.X2-r.X1+1)} {
			for _, y := range []int{r.Y1, r.Y2, r.Y1 + random.Intn(r.Y2-r.Y1+1)} {
				wantInOneCell(t, r, x, y)
			}
		}
	}
}

func TestRectanglesThatMeetHaveNestedCells(t *testing.T) {
	list := smallRects(32766, 32765, 5)
	for _, a := range list {
		for _, b := range list {
			if meet(a, b) {
				wantNested(t, a, b)
			}
		}
	}
	random := rand.New(rand.NewSource(17))
	met := 0
	for met < 5000 {
		a, b := anyRect(random), anyRect(random)
		if meet(a, b) {
			met++
			wantNested(t, a, b)
		}
		// A rectangle that has just one corner in common with the other.
		wantNested(t, a, rect(a.X2, a.Y2, min(a.X2+random.Intn(400), last), min(a.Y2+random.Intn(9), last)))
	}
}
