package quarto_test

import (
	"maps"
	"math/rand"
	"testing"

	"quarto/api"
	"quarto/quarto"
)

// attempt is a call that changes an index, and what it does to a table.
type attempt struct {
	call  func(x *quarto.Index) api.Errno
	apply func(m table)
}

func putOf(id int, r api.Rect) attempt {
	return attempt{func(x *quarto.Index) api.Errno { return x.Put(id, r) }, func(m table) { m[id] = r }}
}

func deleteOf(id int) attempt {
	return attempt{func(x *quarto.Index) api.Errno { return x.Delete(id) }, func(m table) { delete(m, id) }}
}

// wantAheadOrBehind makes an attempt, and lets the disk crash if it broke: the
// index has what it had ahead of the call then, or behind it, and so has the
// table. It answers the index, and whether the disk did not break.
func wantAheadOrBehind(t *testing.T, d *quarto.Disk, x *quarto.Index, m table, a attempt, keep []int) (*quarto.Index, bool) {
	t.Helper()
	behind := maps.Clone(m)
	a.apply(behind)
	e := a.call(x)
	switch {
	case e == api.ErrMissing && maps.Equal(m, behind):
		return x, true
	case e == api.OK:
		a.apply(m)
		return x, true
	case e != api.ErrBroken:
		t.Fatalf("P7: a call that may break: %d", e)
	}
	wantCrash(t, d, keep...)
	x = openIndex(t, d)
	if maps.Equal(tableOf(t, x), behind) {
		a.apply(m)
	}
	m.wantIn(t, x)
	return x, false
}

// keeps tells some lists for a crash: nothing, all, and parts of it.
func keeps(random *rand.Rand) [][]int {
	lists := [][]int{nil, random.Perm(100), {0}}
	for range 5 {
		lists = append(lists, random.Perm(30)[:random.Intn(20)])
	}
	return lists
}

// TestOpenBehindACrash lets the disk break at each place of a change, and crash:
// there is an index, and it has what it had ahead of the change or behind it;
// behind it, if the change was answered OK.
func TestOpenBehindACrash(t *testing.T) {
	random := rand.New(rand.NewSource(3))
	for _, rects := range []int{0, 1, 2, 3, 40} {
		image, ahead := indexImage(t, 400, rects)
		for _, a := range []attempt{putOf(100000, whole), putOf(0, rect(1, 1, 2, 2)), putOf(0, rect(32767, 32767, 32768, 32768)), deleteOf(0)} {
			for calls, done := 0, false; !done; calls++ {
				for _, keep := range keeps(random) {
					m := maps.Clone(ahead)
					d := loadDisk(t, image)
					x := openIndex(t, d)
					wantBreak(t, d, calls, api.OK)
					_, done = wantAheadOrBehind(t, d, x, m, a, keep)
					wantCrash(t, d, keep...)
					m.wantIn(t, openIndex(t, d))
				}
			}
		}
	}
}

// TestManyCrashes lets an index live on behind one crash after another.
func TestManyCrashes(t *testing.T) {
	for seed := range int64(4) {
		random := rand.New(rand.NewSource(seed))
		d := newDisk(t, 400)
		x := openIndex(t, d)
		m := table{}
		for range 100 {
			wantBreak(t, d, random.Intn(60), api.OK)
			for done := true; done; {
				a := deleteOf(random.Intn(40))
				if random.Intn(3) > 0 {
					a = putOf(random.Intn(40), nearRect(random))
				}
				x, done = wantAheadOrBehind(t, d, x, m, a, random.Perm(20)[:random.Intn(20)])
			}
		}
	}
}
