package tree

import (
	"slices"

	"quarto/api"
)

// pair is a key and what stands under it.
type pair[V any] struct {
	Key   Key
	Value V
}

// Entry is a key and its rectangle.
type Entry = pair[api.Rect]

// row is pairs by rising keys. Nodes may share one, so a row is never changed:
// what is changed is a new one.
type row[V any] []pair[V]

func (r row[V]) first() Key { return r[0].Key }

func (r row[V]) last() Key { return r[len(r)-1].Key }

// rising tells whether the keys rise, and no two of them are the same.
func (r row[V]) rising() bool {
	for i := 1; i < len(r); i++ {
		if r[i-1].Key.Compare(r[i].Key) >= 0 {
			return false
		}
	}
	return true
}

// find tells the place of a key, or the one where it would be put, and whether it is there.
func (r row[V]) find(key Key) (int, bool) {
	return slices.BinarySearchFunc(r, key, func(p pair[V], key Key) int { return p.Key.Compare(key) })
}

// swap answers the row with other pairs in place of those from one place up to another.
func (r row[V]) swap(from int, to int, others ...pair[V]) row[V] {
	return slices.Concat(r[:from], row[V](others), r[to:])
}

// parts answers the nodes that a row is kept in, where one may have so many pairs at most.
func parts[V any](r row[V], most int, as func(row[V]) node) []node {
	half := len(r) / 2
	switch {
	case len(r) == 0:
		return nil
	case len(r) <= most:
		return []node{as(r)}
	}
	return []node{as(r[:half]), as(r[half:])}
}
