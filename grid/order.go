package grid

import "quarto/api"

// Places is how many places of cells there are: all of them are below it.
const Places = Codes * (top + 1)

// Place tells the place of a cell in an order of all of them, in which each
// stands just ahead of those that are within it.
func Place(c api.Cell) int {
	return c.Code*(top+1) + top - c.Size
}

// CellAt tells the cell of a place.
func CellAt(place int) api.Cell {
	return api.Cell{Code: place / (top + 1), Size: top - place%(top+1)}
}

// End tells the first code behind a cell.
func End(c api.Cell) int {
	return c.Code + 1<<(2*c.Size)
}

// NextCell tells the first cell in that order, of those that have no code below
// this one, that meets a right window, and whether there is one.
func NextCell(code int, w api.Rect) (api.Cell, bool) {
	if code >= Codes {
		return api.Cell{}, false
	}
	// A cell that meets the window has this point, or none ahead of it.
	first := Next(code, w)
	if first < 0 {
		return api.Cell{}, false
	}
	k := 0
	for k < top && around(first, k+1).Code >= code {
		k++
	}
	return around(first, k), true
}

// around tells the cell of a size that has a code.
func around(code int, size int) api.Cell {
	return api.Cell{Code: code >> (2 * size) << (2 * size), Size: size}
}
