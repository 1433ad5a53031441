package quarto_test

import (
	"math/rand"
	"testing"

	"quarto/api"
	"quarto/quarto"
)

// roomOf tells for how many rectangles a disk has room at least.
func roomOf(sectors int) int {
	return (sectors - 200) / 4
}

// fourCells tells a rectangle that has four cells, far from others.
func fourCells(random *rand.Rand) api.Rect {
	x, y := 2*random.Intn(32767)+1, 2*random.Intn(32767)+1
	return rect(x, y, x+1, y+1)
}

// wantRoom fills an index up to its room, and lets its rectangles change and
// come and go there: nothing of it may answer ErrSpace.
func wantRoom(t *testing.T, x *quarto.Index, room int, seed int64) table {
	t.Helper()
	random := rand.New(rand.NewSource(seed))
	m := table{}
	for id := range room {
		m.wantPut(t, x, id, fourCells(random))
	}
	for id := range room {
		m.wantPut(t, x, id, fourCells(random))
	}
	for range 300 {
		id := random.Intn(2 * room)
		if _, ok := m[id]; ok && random.Intn(2) == 0 {
			m.wantDelete(t, x, id)
		} else if ok || len(m) < room {
			m.wantPut(t, x, id, fourCells(random))
		}
	}
	return m
}

func TestRoom(t *testing.T) {
	for _, sectors := range []int{256, 259, 260, 500, 1500, 4096} {
		x := newIndex(t, sectors)
		m := wantRoom(t, x, roomOf(sectors), int64(sectors))
		m.wantIn(t, x)
		for id := range 2 * roomOf(sectors) {
			m.wantDelete(t, x, id)
		}
		m.wantIn(t, x)
		wantRoom(t, x, roomOf(sectors), int64(sectors)).wantIn(t, x)
	}
}

// fill puts rectangles in, by rising numbers, until there was no room for a few of them.
func fill(t *testing.T, d *quarto.Disk, x *quarto.Index, random *rand.Rand) table {
	t.Helper()
	m := table{}
	for refused := 0; refused < 20; {
		r := fourCells(random)
		image := written(t, d)
		switch e := x.Put(len(m), r); e {
		case api.OK:
			m[len(m)] = r
		case api.ErrSpace:
			refused++
			if written(t, d) != image {
				t.Fatal("P1: a Put without room has written something")
			}
		default:
			t.Fatalf("P7: Put(%d, %v) = %d", len(m), r, e)
		}
	}
	return m
}

// written tells the bytes of a disk, also those that were not safe.
func written(t *testing.T, d *quarto.Disk) string {
	t.Helper()
	wantFlush(t, d, api.OK)
	image, _ := d.Image()
	return image
}

// TestNoRoom holds that a call which answers ErrSpace changes nothing, and that
// from a full index all can be taken out.
func TestNoRoom(t *testing.T) {
	for _, sectors := range []int{256, 700} {
		random := rand.New(rand.NewSource(int64(sectors)))
		d := newDisk(t, sectors)
		x := openIndex(t, d)
		for range 2 {
			m := fill(t, d, x, random)
			if len(m) < roomOf(sectors) {
				t.Errorf("P7: %d sectors are full with %d rectangles", sectors, len(m))
			}
			m.wantIn(t, x)
			x = openIndex(t, d)
			m.wantIn(t, x)
			for _, id := range random.Perm(len(m)) {
				m.wantDelete(t, x, id)
			}
			m.wantIn(t, x)
		}
	}
}
