package tree

import "slices"

// Key is what entries are ordered by: by its first number, and where that is
// the same, by its second.
type Key [2]int

// Compare tells whether a key stands ahead of another (below 0) or behind it (above 0).
func (k Key) Compare(other Key) int {
	return slices.Compare(k[:], other[:])
}
