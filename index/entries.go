package index

import (
	"quarto/api"
	"quarto/grid"
	"quarto/tree"
)

// numbers is the first number of the keys by which rectangles stand under
// their own numbers; by cells, they stand ahead of these.
const numbers = grid.Places

// entries tells the entries that a rectangle has in the tree.
func entries(id int, r api.Rect) []tree.Entry {
	all := []tree.Entry{{Key: numberKey(id), Value: r}}
	for _, cell := range grid.Cover(r) {
		all = append(all, tree.Entry{Key: cellKey(cell, id), Value: r})
	}
	return all
}

func numberKey(id int) tree.Key { return tree.Key{numbers, id} }

func cellKey(cell api.Cell, id int) tree.Key { return tree.Key{grid.Place(cell), id} }

func isId(id int) bool { return id >= 0 && id <= api.MaxId }
