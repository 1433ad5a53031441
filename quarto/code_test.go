package quarto_test

import (
	"math"
	"math/rand"
	"testing"

	"quarto/api"
	"quarto/quarto"
)

// last is the last coordinate of the grid, codes the number of codes.
const (
	last  = api.Grid - 1
	codes = 1 << 32
)

// wrongNumbers are no coordinates.
var wrongNumbers = []int{-1, -2, -api.Grid, api.Grid, api.Grid + 1, 2 * api.Grid, 1 << 31, 1 << 32, 1<<32 + 5, -1 << 32, 1 << 62, -1 << 62, math.MaxInt, math.MinInt, math.MinInt + 1}

// codeOf works a code out from the largest cell down: another way than the program's.
func codeOf(x int, y int) int {
	if x == 0 && y == 0 {
		return 0
	}
	return 4*codeOf(x/2, y/2) + x%2 + 2*(y%2)
}

func TestCodeOfChosenPoints(t *testing.T) {
	for _, c := range []struct{ x, y, want int }{
		{0, 0, 0}, {1, 0, 1}, {0, 1, 2}, {1, 1, 3}, {2, 0, 4}, {0, 2, 8}, {3, 5, 39}, {5, 3, 27},
		{255, 255, 65535}, {256, 0, 65536}, {0, 256, 131072},
		{32767, 32767, 1<<30 - 1}, {32768, 0, 1 << 30}, {0, 32768, 1 << 31}, {32768, 32768, 3 << 30},
		{last, 0, 0x55555555}, {0, last, 0xaaaaaaaa}, {last, last, 4294967295},
	} {
		if got := quarto.Code(c.x, c.y); got != c.want {
			t.Errorf("P3: Code(%d, %d) = %d, want %d", c.x, c.y, got, c.want)
		}
	}
}

func TestCodeOfManyPoints(t *testing.T) {
	r := rand.New(rand.NewSource(3))
	for range 20000 {
		x, y := r.Intn(api.Grid), r.Intn(api.Grid)
		if got, want := quarto.Code(x, y), codeOf(x, y); got != want {
			t.Fatalf("P3: Code(%d, %d) = %d, want %d", x, y, got, want)
		}
	}
}

func TestCodeOffTheGrid(t *testing.T) {
	for _, n := range wrongNumbers {
		for _, other := range append([]int{0, 1, 4711, last}, wrongNumbers...) {
			if a, b := quarto.Code(n, other), quarto.Code(other, n); a != -1 || b != -1 {
				t.Errorf("P3: Code(%d, %d) = %d, and turned round %d, want -1", n, other, a, b)
			}
		}
	}
}
