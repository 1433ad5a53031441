package index

import (
	"slices"
	"testing"

	"quarto/api"
	"quarto/disk"
	"quarto/grid"
	"quarto/tree"
)

// lay makes a disk whose tree has entries, whatever they are.
func lay(t *testing.T, all []tree.Entry) *disk.Disk {
	t.Helper()
	d, _ := disk.New(api.MinSectors)
	on, e := tree.Open(d)
	if e != api.OK {
		t.Fatal(e)
	}
	c, _ := on.Change()
	for _, entry := range all {
		c.Put(entry)
	}
	if e := c.Commit(0); e != api.OK {
		t.Fatal(e)
	}
	return d
}

var (
	four = api.Rect{X1: 3, Y1: 3, X2: 4, Y2: 4}
	one  = api.Rect{X1: 9, Y1: 9, X2: 9, Y2: 9}
)

func TestEntriesOfARectangle(t *testing.T) {
	key := func(code int) tree.Key { return cellKey(api.Cell{Code: code}, 5) }
	want := []tree.Entry{{Key: numberKey(5), Value: four}}
	for _, code := range []int{15, 26, 37, 48} {
		want = append(want, tree.Entry{Key: key(code), Value: four})
	}
	if got := entries(5, four); !slices.Equal(got, want) {
		t.Errorf("entries(5, %v) = %v, want %v", four, got, want)
	}
}

func TestOpenOfEntriesThatAreRight(t *testing.T) {
	for _, all := range [][]tree.Entry{
		nil,
		entries(0, four),
		entries(api.MaxId, one),
		slices.Concat(entries(0, four), entries(1, four), entries(2, one), entries(api.MaxId, api.Rect{X2: 65535, Y2: 65535})),
	} {
		if x, e := Open(lay(t, all)); x == nil || e != api.OK {
			t.Errorf("Open of %v: %d", all, e)
		}
	}
}

func TestOpenOfEntriesThatAreWrong(t *testing.T) {
	right := slices.Concat(entries(5, four), entries(6, one))
	wrong := map[string][]tree.Entry{
		"a number without cells":    right[:1],
		"cells without a number":    right[1:],
		"a number that is too high": entries(api.MaxId+1, one),
		"a number below 0":          entries(-1, one),
		"a key behind the numbers":  append(entries(5, four), tree.Entry{Key: tree.Key{numbers + 1, 5}, Value: four}),
		"a rectangle's number twice": append(slices.Clone(right), tree.Entry{Key: tree.Key{numbers + 1, 7}, Value: one},
			tree.Entry{Key: cellKey(grid.Cover(one)[0], 7), Value: one}),
		"a cell of another size":  append(slices.Clone(right), tree.Entry{Key: cellKey(api.Cell{Size: 1}, 5), Value: four}),
		"a cell of another place": append(slices.Clone(right), tree.Entry{Key: cellKey(api.Cell{Code: 99}, 6), Value: one}),
		"a cell of no rectangle":  append(slices.Clone(right), tree.Entry{Key: cellKey(api.Cell{Code: 99}, 9), Value: one}),
	}
	for i := range right {
		without := slices.Delete(slices.Clone(right), i, i+1)
		wrong["without an entry"] = without
		other := slices.Clone(right)
		other[i].Value.X2++
		wrong["with another rectangle in an entry"] = other
		for name, all := range wrong {
			if x, e := Open(lay(t, all)); x != nil || e != api.ErrCorrupt {
				t.Errorf("Open of %s, %d: %d", name, i, e)
			}
		}
	}
}

// TestOpenOfRectanglesThatAreNotRight lays them as if they were points.
func TestOpenOfRectanglesThatAreNotRight(t *testing.T) {
	for _, r := range []api.Rect{{X1: 1}, {Y1: 1}, {X1: 9, Y1: 9, X2: 8, Y2: 9}, {X1: 65535, Y1: 0, X2: 0, Y2: 65535}} {
		cell := api.Cell{Code: grid.Code(r.X1, r.Y1)}
		for _, all := range [][]tree.Entry{
			{{Key: numberKey(5), Value: r}},
			{{Key: numberKey(5), Value: r}, {Key: cellKey(cell, 5), Value: r}},
		} {
			if x, e := Open(lay(t, all)); x != nil || e != api.ErrCorrupt {
				t.Errorf("Open of %v: %d", all, e)
			}
		}
	}
}

// lattice makes an index of 900 small rectangles, 2000 points from one another.
func lattice(t *testing.T) (*disk.Disk, *Index) {
	t.Helper()
	d, _ := disk.New(api.MaxSectors)
	x, e := Open(d)
	if e != api.OK {
		t.Fatal(e)
	}
	for id := range 900 {
		at := api.Rect{X1: id % 30 * 2000, Y1: id / 30 * 2000, X2: id%30*2000 + 2, Y2: id/30*2000 + 2}
		if e := x.Put(id+1, at); e != api.OK {
			t.Fatal(e)
		}
	}
	return d, x
}

// TestSearchLeaps holds that a window reads few sectors, where few rectangles are near.
func TestSearchLeaps(t *testing.T) {
	d, x := lattice(t)
	for _, c := range []struct {
		w    api.Rect
		want []int
		most int
	}{
		{api.Rect{X1: 19990, Y1: 19990, X2: 22010, Y2: 22010}, []int{311, 312, 341, 342}, 150},
		{api.Rect{X1: 58001, Y1: 58001, X2: 65535, Y2: 65535}, []int{900}, 50},
		{api.Rect{X1: 65535, Y1: 65535, X2: 65535, Y2: 65535}, nil, 50},
	} {
		start := d.Steps()
		ids, e := x.Window(c.w)
		if read := d.Steps() - start; !slices.Equal(ids, c.want) || e != api.OK || read > c.most {
			t.Errorf("Window(%v) = %v, %d, by %d reads", c.w, ids, e, read)
		}
	}
}

// TestFindReadsFew holds that the number is looked for where it would stand, and no further.
func TestFindReadsFew(t *testing.T) {
	d, x := lattice(t)
	for _, id := range []int{0, 1, 450, 900, 901, api.MaxId} {
		start := d.Steps()
		x.Get(id)
		if read := d.Steps() - start; read > 11 {
			t.Errorf("Get(%d) reads %d sectors", id, read)
		}
	}
}

// brimful makes a disk with an index that leaves no sector, or few, free.
func brimful(t *testing.T) (*disk.Disk, int) {
	t.Helper()
	d, _ := disk.New(api.MinSectors)
	on, _ := tree.Open(d)
	for id := 0; ; id++ {
		c, e := on.Change()
		for _, entry := range entries(id, api.Rect{X1: 2*id + 1, Y1: 3, X2: 2*id + 2, Y2: 4}) {
			if e == api.OK {
				e = c.Put(entry)
			}
		}
		if e == api.OK {
			e = c.Commit(0)
		}
		if e == api.ErrSpace {
			return d, id
		}
		if e != api.OK {
			t.Fatal(e)
		}
	}
}

// TestBrimfulIndex holds that a call without room answers ErrSpace, and changes nothing.
func TestBrimfulIndex(t *testing.T) {
	d, count := brimful(t)
	x, e := Open(d)
	if e != api.OK {
		t.Fatalf("Open: %d", e)
	}
	before := d.Image()
	// Only at the end, where the last ones were put in, a change needs few nodes.
	for id := range count / 2 {
		for _, e := range []api.Errno{x.Delete(id), x.Put(id, one), x.Put(count+id, four)} {
			if e != api.ErrSpace {
				t.Errorf("a call of the number %d, without room: %d", id, e)
			}
		}
	}
	if d.Flush(); d.Image() != before {
		t.Error("calls without room have written something")
	}
	if n, e := x.Count(); n != count || e != api.OK {
		t.Errorf("Count() = %d, %d, want %d", n, e, count)
	}
	if !slices.ContainsFunc(ids(count), func(id int) bool { return x.Delete(id) == api.OK }) {
		t.Error("no Delete has room, not even of a rectangle that stands in few nodes")
	}
}

// ids tells the numbers below another one.
func ids(count int) []int {
	all := make([]int, count)
	for i := range all {
		all[i] = i
	}
	return all
}

// TestStepsOfTheHighestTree puts rectangles in by rising numbers, at one place,
// which leaves as little in each node as may be, and lets them go to another.
func TestStepsOfTheHighestTree(t *testing.T) {
	d, _ := disk.New(api.MaxSectors)
	x, e := Open(d)
	if e != api.OK {
		t.Fatal(e)
	}
	here := api.Rect{X1: 32767, Y1: 32767, X2: 32768, Y2: 32768}
	there := api.Rect{X1: 16383, Y1: 16383, X2: 49152, Y2: 49152}
	for _, r := range []api.Rect{here, there, here} {
		for id := range 2000 {
			ahead := d.Steps()
			if e := x.Put(id, r); e != api.OK {
				t.Fatal(e)
			}
			if steps := d.Steps() - ahead; steps >= 200 {
				t.Fatalf("Put(%d, %v) causes %d reads and writes", id, r, steps)
			}
		}
	}
}
