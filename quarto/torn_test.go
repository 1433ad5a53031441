package quarto_test

import (
	"maps"
	"math"
	"math/rand"
	"slices"
	"strconv"
	"testing"

	"quarto/api"
	"quarto/quarto"
)

// subsets tells what a crash may keep of so many sectors: of few of them all
// there is, of more some of it, each of them alone, and all but each of them.
func subsets(random *rand.Rand, sectors int) [][]int {
	all := random.Perm(sectors)
	lists := [][]int{nil, all}
	if sectors <= 7 {
		for mask := range 1 << sectors {
			lists = append(lists, slices.DeleteFunc(slices.Clone(all), func(place int) bool { return mask>>place&1 == 0 }))
		}
		return lists
	}
	for place := range sectors {
		lists = append(lists, []int{place}, slices.DeleteFunc(slices.Clone(all), func(other int) bool { return other == place }))
	}
	for range 20 {
		lists = append(lists, random.Perm(sectors)[:random.Intn(sectors)])
	}
	return lists
}

// wantWhole lets the disk break at each place of an attempt, with each list
// of what is kept then: the index has what it had ahead, or behind, and
// behind, if the attempt was answered OK.
func wantWhole(t *testing.T, image string, ahead table, a attempt, random *rand.Rand) {
	t.Helper()
	for calls, done := 0, false; !done; calls++ {
		for _, keep := range subsets(random, calls) {
			m := maps.Clone(ahead)
			d := loadDisk(t, image)
			x := openIndex(t, d)
			wantBreak(t, d, calls, api.OK)
			x, done = wantAheadOrBehind(t, d, x, m, a, keep)
			wantCrash(t, d, keep...)
			m.wantIn(t, x)
			m.wantIn(t, openIndex(t, d))
		}
	}
}

// TestEveryCrash lets nodes be made, split, joined and left, and the disk fail
// anywhere in it.
func TestEveryCrash(t *testing.T) {
	t.Parallel()
	for _, rects := range []int{0, 1, 2, 4, 12, 25} {
		t.Run(strconv.Itoa(rects)+" rectangles", func(t *testing.T) {
			t.Parallel()
			random := rand.New(rand.NewSource(int64(rects)))
			image, ahead := indexImage(t, 300, rects)
			for _, a := range []attempt{
				putOf(api.MaxId, whole), putOf(1, fourCells(random)), putOf(0, fourCells(random)),
				putOf(0, rect(5, 5, 5, 5)), deleteOf(0), deleteOf(3 * (rects / 2)), deleteOf(1),
			} {
				wantWhole(t, image, ahead, a, random)
			}
		})
	}
}

// TestCrashesOfTheFirstAndTheLast lets an empty index become one with a
// rectangle, and empty again, on a disk on which there was something ahead.
func TestCrashesOfTheFirstAndTheLast(t *testing.T) {
	random := rand.New(rand.NewSource(1))
	d := newDisk(t, api.MinSectors)
	x := openIndex(t, d)
	for _, used := range []bool{false, true} {
		if used {
			wantPut(t, x, 7, whole, api.OK)
			wantDelete(t, x, 7, api.OK)
		}
		image, _ := d.Image()
		wantWhole(t, image, table{}, putOf(9, crosses[0]), random)
	}
	wantPut(t, x, 9, crosses[0], api.OK)
	image, _ := d.Image()
	wantWhole(t, image, table{9: crosses[0]}, deleteOf(9), random)
	wantWhole(t, image, table{9: crosses[0]}, putOf(9, crosses[0]), random)
}

// TestWhatWasAnsweredOKIsNeverLost lets the disk crash behind each call, with
// the index that made it still in use.
func TestWhatWasAnsweredOKIsNeverLost(t *testing.T) {
	random := rand.New(rand.NewSource(5))
	d := newDisk(t, 500)
	x := openIndex(t, d)
	m := table{}
	for range 400 {
		oneIndexCall(t, random, x, m, 20)
		safe, _ := d.Image()
		wantCrash(t, d, random.Perm(20)[:random.Intn(20)]...)
		if now := written(t, d); now != safe {
			t.Fatal("P8: a call that was answered left something that is not safe")
		}
		m.wantIn(t, x)
		m.wantIn(t, openIndex(t, loadDisk(t, safe)))
	}
}

// TestCallsThatBreakNothing lets calls break that change nothing: nothing is changed then.
func TestCallsThatBreakNothing(t *testing.T) {
	image, m := indexImage(t, 400, 12)
	for _, keep := range [][]int{nil, {0}, {math.MinInt, -1, 0, 1, 2, math.MaxInt}} {
		for name, call := range map[string]func(x *quarto.Index) api.Errno{
			"Get":            func(x *quarto.Index) api.Errno { _, e := x.Get(3); return e },
			"Window":         func(x *quarto.Index) api.Errno { _, e := x.Window(whole); return e },
			"Count":          func(x *quarto.Index) api.Errno { _, e := x.Count(); return e },
			"Delete of none": func(x *quarto.Index) api.Errno { return x.Delete(4) },
		} {
			d := loadDisk(t, image)
			x := openIndex(t, d)
			wantBreak(t, d, 0, api.OK)
			if e := call(x); e != api.ErrBroken {
				t.Errorf("P7: %s of a disk that breaks: %d", name, e)
			}
			wantCrash(t, d, keep...)
			if now := written(t, d); now != image {
				t.Errorf("P8: %s that broke has changed the disk", name)
			}
			m.wantIn(t, openIndex(t, d))
		}
	}
}

// TestADeadIndexChangesNothing holds that it does not meddle with the index
// that is opened in its place.
func TestADeadIndexChangesNothing(t *testing.T) {
	random := rand.New(rand.NewSource(6))
	image, _ := indexImage(t, 400, 12)
	for calls := range 6 {
		d := loadDisk(t, image)
		dead := openIndex(t, d)
		wantBreak(t, d, calls, api.OK)
		wantPut(t, dead, 0, fourCells(random), api.ErrBroken)
		wantAll(t, dead, api.ErrDead)
		wantCrash(t, d, random.Perm(calls+1)...)
		x := openIndex(t, d)
		m := tableOf(t, x)
		for range 20 {
			oneIndexCall(t, random, x, m, 20)
			safe, _ := d.Image()
			steps, _ := d.Steps()
			wantAll(t, dead, api.ErrDead)
			wantSteps(t, d, steps)
			if now := written(t, d); now != safe {
				t.Fatal("P7: an index that is dead has changed the disk")
			}
		}
		m.wantIn(t, x)
	}
}

// wantAfter makes an attempt on an index, and lets the disk crash: whatever was
// answered, an index that is opened then has what this answer allows. Both are told.
func wantAfter(t *testing.T, d *quarto.Disk, x *quarto.Index, ahead table, a attempt, crash func()) (*quarto.Index, table) {
	t.Helper()
	behind := maps.Clone(ahead)
	a.apply(behind)
	e := a.call(x)
	crash()
	x = openIndex(t, d)
	now := tableOf(t, x)
	wantCount(t, x, len(now), api.OK)
	was, done := maps.Equal(now, ahead), maps.Equal(now, behind)
	switch e {
	case api.OK:
		if !done {
			t.Fatal("P8: what a call did that answered OK is lost")
		}
	case api.ErrBroken:
		if !was && !done {
			t.Fatal("P8: behind a call that broke there is neither what was ahead of it, nor what would be behind it")
		}
	case api.ErrSpace, api.ErrMissing:
		if !was {
			t.Fatalf("P1: a call that answered %d has changed something", e)
		}
	default:
		t.Fatalf("P7: a call that may break: %d", e)
	}
	return x, now
}

// someAttempt tells a call of a number below another.
func someAttempt(random *rand.Rand, ids int) attempt {
	if random.Intn(3) == 0 {
		return deleteOf(random.Intn(ids))
	}
	return putOf(random.Intn(ids), fourCells(random))
}

// TestBreaksInARow lets a change break, and then Open, again and again, before
// the index is asked what it has.
func TestBreaksInARow(t *testing.T) {
	random := rand.New(rand.NewSource(7))
	d := newDisk(t, 400)
	x, m := openIndex(t, d), table{}
	for n := range 400 {
		wantBreak(t, d, n%25, api.OK)
		x, m = wantAfter(t, d, x, m, someAttempt(random, 40), func() {
			for range 4 {
				wantCrash(t, d, random.Perm(20)[:random.Intn(20)]...)
				wantBreak(t, d, random.Intn(3), api.OK)
				quarto.Open(d)
			}
			wantCrash(t, d)
		})
	}
}

// TestCrashesOfAFullIndex lets calls break where there is room for some of them, and for others not.
func TestCrashesOfAFullIndex(t *testing.T) {
	t.Parallel()
	random := rand.New(rand.NewSource(8))
	d := newDisk(t, api.MinSectors)
	x := openIndex(t, d)
	m := fill(t, d, x, random)
	for n := range 300 {
		wantBreak(t, d, n%40, api.OK)
		x, m = wantAfter(t, d, x, m, someAttempt(random, 2*len(m)), func() {
			wantCrash(t, d, random.Perm(30)[:random.Intn(30)]...)
		})
	}
}

// TestRoomBehindCrashes holds that no room is lost to calls that broke.
func TestRoomBehindCrashes(t *testing.T) {
	for _, sectors := range []int{api.MinSectors, 500} {
		random := rand.New(rand.NewSource(int64(sectors)))
		d := newDisk(t, sectors)
		x := openIndex(t, d)
		m := table{}
		for id := range roomOf(sectors) {
			m.wantPut(t, x, id, fourCells(random))
		}
		for n := range 300 {
			wantBreak(t, d, n%30, api.OK)
			a := putOf(random.Intn(len(m)), fourCells(random))
			x, _ = wantAheadOrBehind(t, d, x, m, a, random.Perm(30)[:random.Intn(30)])
		}
		wantCrash(t, d)
		for id := range roomOf(sectors) {
			m.wantDelete(t, x, id)
		}
		wantRoom(t, x, roomOf(sectors), int64(sectors)).wantIn(t, x)
	}
}

// TestCrashesOfOtherBytes holds that an index does not fail with its disk
// either, if it was made of bytes that were not all written by one.
func TestCrashesOfOtherBytes(t *testing.T) {
	t.Parallel()
	random := rand.New(rand.NewSource(10))
	image, _ := indexImage(t, 400, 40)
	older, _ := indexImage(t, 400, 30)
	made := 0
	for range 800 {
		b := []byte(image)
		for range 1 + random.Intn(2) {
			from, to := random.Intn(60)*api.Sector, random.Intn(60)*api.Sector
			copy(b[to:to+api.Sector], []string{image, older}[random.Intn(2)][from:])
		}
		b[random.Intn(len(b))] ^= byte(1 << random.Intn(8))
		d := loadDisk(t, string(b))
		x, e := quarto.Open(d)
		if e != api.OK {
			continue
		}
		made++
		m := tableOf(t, x)
		for range 3 {
			wantBreak(t, d, random.Intn(20), api.OK)
			x, m = wantAfter(t, d, x, m, someAttempt(random, 150), func() {
				wantCrash(t, d, random.Perm(20)[:random.Intn(20)]...)
			})
		}
	}
	if made < 100 {
		t.Errorf("of other bytes only %d indexes were made", made)
	}
}
