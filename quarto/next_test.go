package quarto_test

import (
	"math"
	"math/rand"
	"testing"

	"quarto/api"
	"quarto/quarto"
)

// wrongCodes are no codes.
var wrongCodes = []int{-1, -2, codes, codes + 1, 2 * codes, -codes, 1 << 62, math.MaxInt, math.MinInt}

// nextOf looks for the least code from one on by going down the cells; it works
// for windows of any size, in another way than the program's.
func nextOf(code int, w api.Rect, x int, y int, size int) int {
	wide := 1 << size
	if x > w.X2 || x+wide-1 < w.X1 || y > w.Y2 || y+wide-1 < w.Y1 {
		return -1
	}
	if codeOf(x+wide-1, y+wide-1) < code {
		return -1
	}
	if size == 0 {
		return codeOf(x, y)
	}
	half := wide / 2
	for _, at := range [][2]int{{x, y}, {x + half, y}, {x, y + half}, {x + half, y + half}} {
		if n := nextOf(code, w, at[0], at[1], size-1); n >= 0 {
			return n
		}
	}
	return -1
}

func wantNext(t *testing.T, code int, w api.Rect, want int) {
	t.Helper()
	if got, e := quarto.Next(code, w); got != want || e != api.OK {
		t.Fatalf("P4: Next(%d, %v) = %d, %d, want %d", code, w, got, e, want)
	}
}

func TestNextOfChosenCodes(t *testing.T) {
	small, whole := rect(2, 2, 3, 3), rect(0, 0, last, last)
	edge := rect(last, last, last, last)
	right, low := rect(last, 0, last, last), rect(0, last, last, last)
	for _, c := range []struct {
		code int
		w    api.Rect
		want int
	}{
		{5, small, 12}, {16, small, -1}, {0, small, 12}, {12, small, 12}, {13, small, 13}, {15, small, 15}, {codes - 1, small, -1},
		{0, whole, 0}, {1, whole, 1}, {4711, whole, 4711}, {1 << 31, whole, 1 << 31}, {codes - 1, whole, codes - 1},
		{0, edge, codes - 1}, {codes - 2, edge, codes - 1}, {codes - 1, edge, codes - 1},
		{0, right, 0x55555555}, {0x55555556, right, 0x55555557}, {0x55555558, right, 0x5555555d}, {codes - 1, right, codes - 1},
		{0, low, 0xaaaaaaaa}, {0xaaaaaaab, low, 0xaaaaaaab}, {0xaaaaaaac, low, 0xaaaaaaae}, {codes - 1, low, codes - 1},
		{0, rect(0, 0, 0, 0), 0}, {1, rect(0, 0, 0, 0), -1},
		{2, rect(1, 0, 2, 1), 3}, {5, rect(1, 0, 2, 1), 6}, {7, rect(1, 0, 2, 1), -1},
		{0x3fffffff, rect(32767, 0, 32768, 0), 1 << 30}, {1<<30 + 1, rect(32767, 0, 32768, 0), -1},
	} {
		wantNext(t, c.code, c.w, c.want)
	}
}

// TestNextOfSmallWindows asks for all windows in a square, from all codes of it and from the first ones behind it.
func TestNextOfSmallWindows(t *testing.T) {
	for _, at := range [][2]int{{0, 0}, {last - 7, last - 7}, {32760, 32768}} {
		first := codeOf(at[0], at[1])
		for _, w := range smallRects(at[0], at[1], 8) {
			least := make([]int, 66)
			least[64], least[65] = -1, -1
			for i := 63; i >= 0; i-- {
				least[i] = nextOf(first+i, w, at[0], at[1], 3)
			}
			for i, want := range least {
				if first+i < codes {
					wantNext(t, first+i, w, want)
				}
			}
			if first > 0 {
				wantNext(t, first-1, w, least[0])
				wantNext(t, 0, w, least[0])
			}
		}
	}
}

// TestNextOfManyWindows asks for windows of all sizes, from codes near to those of their points, and from any.
func TestNextOfManyWindows(t *testing.T) {
	r := rand.New(rand.NewSource(11))
	for range 20000 {
		w := anyRect(r)
		code := r.Intn(codes)
		if r.Intn(2) == 0 {
			code = codeOf(w.X1+r.Intn(w.X2-w.X1+1), w.Y1+r.Intn(w.Y2-w.Y1+1)) + r.Intn(5) - 2
			code = min(max(code, 0), codes-1)
		}
		wantNext(t, code, w, nextOf(code, w, 0, 0, 16))
	}
}

// anyRect tells a right rectangle, of large and small ones alike.
func anyRect(r *rand.Rand) api.Rect {
	x, y := r.Intn(api.Grid), r.Intn(api.Grid)
	wide, high := r.Intn(1<<r.Intn(17)), r.Intn(1<<r.Intn(17))
	return rect(x, y, min(x+wide, last), min(y+high, last))
}

func TestNextOfWrongArguments(t *testing.T) {
	for _, code := range wrongCodes {
		for _, w := range append(wrongRects(), rect(0, 0, 0, 0), rect(0, 0, last, last)) {
			if got, e := quarto.Next(code, w); got != 0 || e != api.ErrArg {
				t.Errorf("P4: Next(%d, %v) = %d, %d, want 0 and ErrArg", code, w, got, e)
			}
		}
	}
	for _, code := range []int{0, 5, 1 << 31, codes - 1} {
		for _, w := range wrongRects() {
			if got, e := quarto.Next(code, w); got != 0 || e != api.ErrRect {
				t.Errorf("P4: Next(%d, %v) = %d, %d, want 0 and ErrRect", code, w, got, e)
			}
		}
	}
}
