package quarto_test

import (
	"math"
	"strings"
	"testing"

	"quarto/api"
	"quarto/quarto"
)

func TestBreakCountsWritesAndFlushes(t *testing.T) {
	for n := range 12 {
		d := newDisk(t, 256)
		wantBreak(t, d, n, api.OK)
		for i := range n {
			if i%3 == 2 {
				wantFlush(t, d, api.OK)
			} else {
				wantWrite(t, d, i, "a", api.OK)
			}
		}
		wantWrite(t, d, 200, "b", api.ErrBroken)
		wantFlush(t, d, api.ErrBroken)
		wantNoRead(t, d, 200, api.ErrBroken)
	}
}

func TestReadsAreNotCounted(t *testing.T) {
	d := newDisk(t, 256)
	wantBreak(t, d, 2, api.OK)
	for range 9 {
		wantRead(t, d, 1, "\x00")
	}
	wantFlush(t, d, api.OK)
	wantRead(t, d, 1, "\x00")
	wantWrite(t, d, 1, "a", api.OK)
	wantNoRead(t, d, 1, api.ErrBroken)
}

// Each call that a Break stops breaks the disk: a later Break finds it broken.
func TestWhichCallsBreakTheDisk(t *testing.T) {
	for name, call := range map[string]struct {
		do     func(d *quarto.Disk) api.Errno
		want   api.Errno
		breaks bool
	}{
		"Read":                  {func(d *quarto.Disk) api.Errno { _, e := d.Read(3); return e }, api.ErrBroken, true},
		"Write":                 {func(d *quarto.Disk) api.Errno { return d.Write(3, filled("x")) }, api.ErrBroken, true},
		"Flush":                 {func(d *quarto.Disk) api.Errno { return d.Flush() }, api.ErrBroken, true},
		"Read of no sector":     {func(d *quarto.Disk) api.Errno { _, e := d.Read(256); return e }, api.ErrSector, false},
		"Write to no sector":    {func(d *quarto.Disk) api.Errno { return d.Write(-1, filled("x")) }, api.ErrSector, false},
		"Write of too few":      {func(d *quarto.Disk) api.Errno { return d.Write(3, "x") }, api.ErrSize, false},
		"Image":                 {func(d *quarto.Disk) api.Errno { _, e := d.Image(); return e }, api.OK, false},
		"Steps":                 {func(d *quarto.Disk) api.Errno { _, e := d.Steps(); return e }, api.OK, false},
		"Break":                 {func(d *quarto.Disk) api.Errno { return d.Break(0) }, api.OK, false},
		"Break of what is none": {func(d *quarto.Disk) api.Errno { return d.Break(-1) }, api.ErrArg, false},
	} {
		d := newDisk(t, 256)
		wantBreak(t, d, 0, api.OK)
		if e := call.do(d); e != call.want {
			t.Errorf("P5: %s: %d, want %d", name, e, call.want)
		}
		wantBreak(t, d, 5, api.OK)
		want := api.OK
		if call.breaks {
			want = api.ErrBroken
		}
		if e := d.Write(3, filled("a")); e != want {
			t.Errorf("P5: a Write behind Break(0), %s, Break(5): %d, want %d", name, e, want)
		}
	}
}

func TestWrongWritesAreNotCounted(t *testing.T) {
	d := newDisk(t, 256)
	wantBreak(t, d, 1, api.OK)
	for _, i := range notSectors {
		wantWrite(t, d, i, "x", api.ErrSector)
		wantNoRead(t, d, i, api.ErrSector)
	}
	for _, n := range notCounts {
		if e := d.Write(0, strings.Repeat("x", n)); e != api.ErrSize {
			t.Errorf("P5: Write of %d bytes = %d, want ErrSize", n, e)
		}
	}
	wantWrite(t, d, 0, "a", api.OK)
	wantFlush(t, d, api.ErrBroken)
}

func TestWrongReadsAndWritesOfABrokenDisk(t *testing.T) {
	d := newDisk(t, 256)
	wantBreak(t, d, 0, api.OK)
	wantFlush(t, d, api.ErrBroken)
	wantNoRead(t, d, 256, api.ErrSector)
	wantWrite(t, d, -1, "x", api.ErrSector)
	if e := d.Write(0, ""); e != api.ErrSize {
		t.Errorf("P5: Write of no bytes to a broken disk = %d, want ErrSize", e)
	}
	if e := d.Write(256, ""); e != api.ErrSector {
		t.Errorf("P5: Write of no bytes to no sector of a broken disk = %d, want ErrSector", e)
	}
	wantBreak(t, d, -1, api.ErrArg)
}

func TestEachBreakTakesThePlaceOfTheLast(t *testing.T) {
	d := newDisk(t, 256)
	wantBreak(t, d, 1, api.OK)
	wantBreak(t, d, 3, api.OK)
	wantWrite(t, d, 0, "a", api.OK)
	wantWrite(t, d, 0, "b", api.OK)
	wantBreak(t, d, 2, api.OK)
	wantWrite(t, d, 0, "c", api.OK)
	wantFlush(t, d, api.OK)
	wantBreak(t, d, math.MaxInt, api.OK)
	for range 20 {
		wantFlush(t, d, api.OK)
	}
	wantBreak(t, d, 9, api.OK)
	wantBreak(t, d, 0, api.OK)
	wantNoRead(t, d, 0, api.ErrBroken)
}

func TestWrongBreakChangesNothing(t *testing.T) {
	for _, n := range []int{-1, -2, -1 << 62, math.MinInt} {
		d := newDisk(t, 256)
		wantBreak(t, d, n, api.ErrArg)
		for range 9 {
			wantWrite(t, d, 0, "a", api.OK)
		}
		wantBreak(t, d, 1, api.OK)
		wantBreak(t, d, n, api.ErrArg)
		wantFlush(t, d, api.OK)
		wantFlush(t, d, api.ErrBroken)
		wantBreak(t, d, n, api.ErrArg)
		wantNoRead(t, d, 0, api.ErrBroken)
	}
}

func TestBreakDoesNotMend(t *testing.T) {
	d := newDisk(t, 256)
	wantBreak(t, d, 0, api.OK)
	wantWrite(t, d, 0, "a", api.ErrBroken)
	for _, n := range []int{0, 1, 7, math.MaxInt} {
		wantBreak(t, d, n, api.OK)
		wantNoRead(t, d, 0, api.ErrBroken)
		wantWrite(t, d, 0, "a", api.ErrBroken)
		wantFlush(t, d, api.ErrBroken)
	}
}

func TestABrokenDiskChangesNothing(t *testing.T) {
	d := newDisk(t, 256)
	wantWrite(t, d, 4, "a", api.OK)
	wantFlush(t, d, api.OK)
	wantWrite(t, d, 4, "b", api.OK)
	wantWrite(t, d, 6, "c", api.OK)
	wantBreak(t, d, 0, api.OK)
	wantFlush(t, d, api.ErrBroken)
	wantWrite(t, d, 4, "x", api.ErrBroken)
	wantWrite(t, d, 1, "y", api.ErrBroken)
	wantSafe(t, d, 256, map[int]string{4: "a"})
	// 4 and 6 are still the row: neither was made safe, and 1 did not come in.
	wantCrash(t, d, 0)
	wantSafe(t, d, 256, map[int]string{4: "b"})
	wantRead(t, d, 1, "\x00")
	wantRead(t, d, 4, "b")
	wantRead(t, d, 6, "\x00")
}

func TestCrashMends(t *testing.T) {
	d := newDisk(t, 256)
	wantBreak(t, d, 0, api.OK)
	wantFlush(t, d, api.ErrBroken)
	wantBreak(t, d, 1, api.OK)
	wantCrash(t, d)
	for range 5 {
		wantWrite(t, d, 0, "a", api.OK)
		wantFlush(t, d, api.OK)
		wantRead(t, d, 0, "a")
	}
	// A Break that has not come to its end does not count any more either.
	for _, n := range []int{0, 1, 2} {
		wantBreak(t, d, n, api.OK)
		wantCrash(t, d)
		for range 5 {
			wantFlush(t, d, api.OK)
		}
	}
	wantBreak(t, d, 1, api.OK)
	wantFlush(t, d, api.OK)
	wantFlush(t, d, api.ErrBroken)
}
