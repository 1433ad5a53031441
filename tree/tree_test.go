package tree

import (
	"maps"
	"math/rand"
	"slices"
	"testing"

	"quarto/api"
	"quarto/disk"
)

// wantEntries asks for the entries from a key on.
func wantEntries(t *testing.T, tree *Tree, from Key, want map[Key]api.Rect) {
	t.Helper()
	keys := slices.SortedFunc(maps.Keys(want), Key.Compare)
	for entry, e := range tree.From(from) {
		for len(keys) > 0 && keys[0].Compare(from) < 0 {
			keys = keys[1:]
		}
		if len(keys) == 0 || e != api.OK || entry != (Entry{keys[0], want[keys[0]]}) {
			t.Fatalf("from %v: %v, %d", from, entry, e)
		}
		keys = keys[1:]
	}
	if len(keys) > 0 && keys[len(keys)-1].Compare(from) >= 0 {
		t.Fatalf("from %v: %d entries are missing", from, len(keys))
	}
}

func change(t *testing.T, tree *Tree) *Change {
	t.Helper()
	c, e := tree.Change()
	if e != api.OK {
		t.Fatalf("Change: %d", e)
	}
	return c
}

func wantCommit(t *testing.T, c *Change, spare int, want api.Errno) {
	t.Helper()
	if e := c.Commit(spare); e != want {
		t.Fatalf("Commit(%d) = %d, want %d", spare, e, want)
	}
}

// putAll puts keys with these second numbers into a tree, each by a change of its own.
func putAll(t *testing.T, tree *Tree, numbers ...int) {
	t.Helper()
	for _, n := range numbers {
		c := change(t, tree)
		if e := c.Put(Entry{Key{1, n}, aRect(1)}); e != api.OK {
			t.Fatalf("Put(%d): %d", n, e)
		}
		wantCommit(t, c, 0, api.OK)
	}
}

// upTo tells the numbers below another one.
func upTo(n int) []int {
	numbers := make([]int, n)
	for i := range numbers {
		numbers[i] = i
	}
	return numbers
}

// TestManyChanges makes changes of a few edits each, of keys that come and go,
// and looks each time whether a tree that is opened anew is right and free.
func TestManyChanges(t *testing.T) {
	for seed := range int64(4) {
		random := rand.New(rand.NewSource(seed))
		d := newDisk(t)
		tree := wantOpen(t, d)
		want := map[Key]api.Rect{}
		for step := range 900 {
			c := change(t, tree)
			grow := step/300%2 == 0
			for range random.Intn(8) {
				key := Key{random.Intn(3), random.Intn(150)}
				if random.Intn(4) > 0 == grow {
					r := aRect(random.Intn(9))
					want[key] = r
					c.Put(Entry{key, r})
				} else {
					delete(want, key)
					c.Delete(key)
				}
			}
			wantCommit(t, c, 0, api.OK)
			again := wantOpen(t, d)
			if a, b := slices.Sorted(slices.Values(tree.free)), slices.Sorted(slices.Values(again.free)); !slices.Equal(a, b) {
				t.Fatalf("seed %d: %d sectors are free, but %d are not used", seed, len(a), len(b))
			}
			wantEntries(t, tree, Key{}, want)
		}
		for key := range want {
			wantEntries(t, tree, key, want)
			wantEntries(t, tree, Key{key[0], key[1] + 1}, want)
		}
	}
}

// TestGrowAndShrink puts keys in by rising, falling and mixed numbers, and takes them out again, down to nothing.
func TestGrowAndShrink(t *testing.T) {
	up := upTo(500)
	down := slices.Clone(up)
	slices.Reverse(down)
	mixed := rand.New(rand.NewSource(1)).Perm(500)
	for _, in := range [][]int{up, down, mixed} {
		for _, out := range [][]int{up, down, mixed} {
			d := newDisk(t)
			tree := wantOpen(t, d)
			putAll(t, tree, in...)
			wantOpen(t, d)
			for _, n := range out {
				c := change(t, tree)
				if e := c.Delete(Key{1, n}); e != api.OK {
					t.Fatalf("Delete(%d): %d", n, e)
				}
				wantCommit(t, c, 0, api.OK)
				tree = wantOpen(t, d)
			}
			wantEntries(t, tree, Key{}, nil)
			if len(tree.free) != sectors-1 {
				t.Errorf("of an empty tree, %d sectors are free", len(tree.free))
			}
		}
	}
}

func TestDeleteOfWhatIsNotThere(t *testing.T) {
	tree := wantOpen(t, newDisk(t))
	c := change(t, tree)
	c.Delete(Key{1, 1})
	wantCommit(t, c, 0, api.OK)
	wantEntries(t, tree, Key{}, nil)
	putAll(t, tree, 1, 3)
	c = change(t, tree)
	c.Delete(Key{1, 2})
	wantCommit(t, c, 0, api.OK)
	wantEntries(t, tree, Key{}, map[Key]api.Rect{{1, 1}: aRect(1), {1, 3}: aRect(1)})
}

// TestFromIsLeft holds that who leaves the entries reads no more of them.
func TestFromIsLeft(t *testing.T) {
	d := newDisk(t)
	tree := wantOpen(t, d)
	putAll(t, tree, upTo(400)...)
	for stop := 1; stop < 400; stop += 7 {
		seen, start := 0, d.Steps()
		for range tree.From(Key{}) {
			seen++
			if seen == stop {
				break
			}
		}
		// A leaf has half of the most at least, and a branch too.
		if most := 4 + stop/(leafMost/2) + stop/(leafMost/2)/(branchMost/2); seen != stop || d.Steps()-start > most {
			t.Fatalf("left at %d: saw %d, read %d sectors, want %d at most", stop, seen, d.Steps()-start, most)
		}
	}
}

// TestFromTellsThatTheDiskBroke holds that an error is told once, behind what was read.
func TestFromTellsThatTheDiskBroke(t *testing.T) {
	d := newDisk(t)
	tree := wantOpen(t, d)
	putAll(t, tree, upTo(60)...)
	for _, stop := range []int{0, 1, 20, 59} {
		seen, failed := 0, 0
		if stop == 0 {
			d.Break(0)
		}
		for entry, e := range tree.From(Key{}) {
			if e == api.OK {
				seen++
			} else if failed++; e != api.ErrBroken || entry != (Entry{}) {
				t.Errorf("broken at %d: %v, %d", stop, entry, e)
			}
			if seen == stop {
				d.Break(0)
			}
		}
		// What stands in the leaf that was read already is told all the same.
		if seen < stop || seen > stop+leafMost || failed != 1 && seen < 60 {
			t.Errorf("broken at %d: saw %d entries and %d errors", stop, seen, failed)
		}
		d.Crash(nil)
	}
}

func image(t *testing.T, d *disk.Disk) string {
	t.Helper()
	if e := d.Flush(); e != api.OK {
		t.Fatal(e)
	}
	return d.Image()
}

// TestNoRoom holds that a change for which there is no room writes nothing.
func TestNoRoom(t *testing.T) {
	d := newDisk(t)
	tree := wantOpen(t, d)
	putAll(t, tree, upTo(50)...)
	ahead := image(t, d)
	all := tree.free
	// A change of one key needs a new leaf and a new root.
	for room := range 3 {
		tree.free = slices.Clone(all[:room])
		c := change(t, tree)
		e := c.Put(Entry{Key{1, 1}, aRect(2)})
		if want := room < 2; (e == api.ErrSpace) != want || e != api.OK && e != api.ErrSpace {
			t.Errorf("Put with room for %d: %d", room, e)
		}
	}
	tree.free = slices.Clone(all)
	c := change(t, tree)
	c.Put(Entry{Key{1, 1}, aRect(2)})
	wantCommit(t, c, len(all)+1, api.ErrSpace)
	if image(t, d) != ahead || !slices.Equal(tree.free, all) {
		t.Error("a change without room has changed something")
	}
	c = change(t, tree)
	c.Put(Entry{Key{1, 1}, aRect(2)})
	wantCommit(t, c, len(all), api.OK)
}

// TestNodesAreFilled holds that a node is split when it has too much, not ahead of it.
func TestNodesAreFilled(t *testing.T) {
	tree := wantOpen(t, newDisk(t))
	for n := range leafMost + 1 {
		putAll(t, tree, n)
		want := 1
		if n == leafMost {
			want = 3 // two leaves and a branch
		}
		if used := sectors - 1 - len(tree.free); used != want {
			t.Errorf("%d entries stand in %d nodes, want %d", n+1, used, want)
		}
	}
}

// TestOnlyWhatIsNewIsWritten holds that a change writes no node that it took out itself.
func TestOnlyWhatIsNewIsWritten(t *testing.T) {
	d := newDisk(t)
	tree := wantOpen(t, d)
	c := change(t, tree)
	for n := range 50 {
		c.Put(Entry{Key{1, n}, aRect(1)})
	}
	for n := range 50 {
		c.Delete(Key{1, n})
	}
	start := d.Steps()
	wantCommit(t, c, 0, api.OK)
	if wrote := d.Steps() - start; wrote != 1 {
		t.Errorf("a change without new nodes wrote %d sectors, not the head alone", wrote)
	}
}

// TestChangeTellsThatTheDiskBroke lets it break ahead of each kind of read of a change.
func TestChangeTellsThatTheDiskBroke(t *testing.T) {
	d := newDisk(t)
	tree := wantOpen(t, d)
	putAll(t, tree, upTo(3*leafMost)...)
	want := func(what string, e api.Errno) {
		t.Helper()
		if e != api.ErrBroken {
			t.Errorf("%s: %d", what, e)
		}
		d.Crash(nil)
	}
	d.Break(0)
	c, e := tree.Change()
	want("Change", e)
	if c != nil {
		t.Error("there is a change of a broken disk")
	}
	c = change(t, tree)
	d.Break(0)
	want("Put", c.Put(Entry{Key{1, 1}, aRect(1)}))
	c = change(t, tree)
	d.Break(0)
	want("Delete", c.Delete(Key{1, 1}))
	c = change(t, tree)
	c.Delete(Key{1, 1})
	d.Break(0)
	want("Put under a root that is in the change", c.Put(Entry{Key{1, 99}, aRect(1)}))
	// What is in the change is not read again, but the node beside it is, when it is poor.
	for _, side := range [][]int{upTo(leafMost), {29, 28, 27, 26, 25, 24, 23, 22, 21, 20}} {
		c = change(t, tree)
		e := c.Delete(Key{1, side[0]})
		d.Break(0)
		for _, n := range side[1:] {
			if e == api.OK {
				e = c.Delete(Key{1, n})
			}
		}
		want("Delete of all of a leaf", e)
	}
}

// TestChangeThatIsGivenUp holds that a change is nothing until it is committed.
func TestChangeThatIsGivenUp(t *testing.T) {
	d := newDisk(t)
	tree := wantOpen(t, d)
	putAll(t, tree, upTo(50)...)
	ahead, free := image(t, d), slices.Clone(tree.free)
	c := change(t, tree)
	for n := range 50 {
		c.Delete(Key{1, n})
		c.Put(Entry{Key{2, n}, aRect(1)})
	}
	if image(t, d) != ahead || !slices.Equal(tree.free, free) {
		t.Error("a change has changed something ahead of its commit")
	}
}

// TestCommitBreaks lets the disk break at each call of a commit: what is read
// behind the crash is the state ahead, or the new one.
func TestCommitBreaks(t *testing.T) {
	d := newDisk(t)
	putAll(t, wantOpen(t, d), upTo(50)...)
	ahead := map[Key]api.Rect{}
	for n := range 50 {
		ahead[Key{1, n}] = aRect(1)
	}
	behind := maps.Clone(ahead)
	behind[Key{1, 7}] = aRect(2)
	safe := image(t, d)
	for calls := 0; ; calls++ {
		for kept := range 2 {
			d, _ := disk.Load(safe)
			tree := wantOpen(t, d)
			c := change(t, tree)
			c.Put(Entry{Key{1, 7}, aRect(2)})
			d.Break(calls)
			e := c.Commit(0)
			if e != api.OK && e != api.ErrBroken {
				t.Fatalf("Commit: %d", e)
			}
			d.Crash([]int{0, 1, 2, 3}[:4*kept])
			// The head is written behind a leaf, the root and a flush: it may be kept.
			want := ahead
			if e == api.OK || calls == 4 && kept == 1 {
				want = behind
			}
			wantEntries(t, wantOpen(t, d), Key{}, want)
			if e == api.OK {
				return
			}
		}
	}
}

// heightOf tells how many nodes stand below one another.
func heightOf(t *testing.T, tree *Tree) int {
	t.Helper()
	sector, e := tree.root()
	height := 0
	for e == api.OK && sector != none {
		var n node
		if n, e = tree.read(sector); e != api.OK {
			break
		}
		height++
		sector = none
		if b, ok := n.(branch); ok {
			sector = b.row[0].Value
		}
	}
	if e != api.OK {
		t.Fatalf("a node: %d", e)
	}
	return height
}

// wantFewSteps makes a change of one key: it goes down to a leaf once, reads
// one node beside each that it goes through, and writes two for each of them.
func wantFewSteps(t *testing.T, d *disk.Disk, tree *Tree, edit func(c *Change) api.Errno) {
	t.Helper()
	height := heightOf(t, tree)
	ahead := d.Steps()
	c := change(t, tree)
	if e := edit(c); e != api.OK {
		t.Fatalf("an edit: %d", e)
	}
	read := d.Steps() - ahead
	wantCommit(t, c, 0, api.OK)
	wrote := d.Steps() - ahead - read
	// The head, and of the root none beside it; and a root above that, if it was split.
	if read > 1+height+max(height-1, 0) || wrote > 1+2*height+1 {
		t.Fatalf("a change of a tree that is %d high reads %d sectors and writes %d", height, read, wrote)
	}
}

// TestStepsOfAChange lets a tree grow, with as little in each node as may be, and shrink from its middle.
func TestStepsOfAChange(t *testing.T) {
	d, _ := disk.New(api.MaxSectors)
	tree := wantOpen(t, d)
	const most = 5000
	for n := range most {
		wantFewSteps(t, d, tree, func(c *Change) api.Errno { return c.Put(Entry{Key{1, n}, aRect(1)}) })
	}
	if height := heightOf(t, tree); height != 5 {
		t.Errorf("a tree of %d entries is %d high", most, height)
	}
	for n := range most {
		key := Key{1, (n + most/2) % most}
		wantFewSteps(t, d, tree, func(c *Change) api.Errno { return c.Delete(key) })
	}
	wantEntries(t, tree, Key{}, nil)
}
