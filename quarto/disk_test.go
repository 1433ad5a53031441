package quarto_test

import (
	"math"
	"slices"
	"strings"
	"testing"

	"quarto/api"
	"quarto/quarto"
)

// notSectors are numbers of no sector of any disk, notCounts lengths that no sector has.
var (
	notSectors = []int{-1, -256, api.MaxSectors, 1 << 32, 1 << 62, -1 << 62, math.MaxInt, math.MinInt}
	notCounts  = []int{0, 1, api.Sector - 1, api.Sector + 1, 2 * api.Sector}
)

func newDisk(t *testing.T, sectors int) *quarto.Disk {
	t.Helper()
	d, e := quarto.NewDisk(sectors)
	if d == nil || e != api.OK {
		t.Fatalf("P5: NewDisk(%d): %d", sectors, e)
	}
	return d
}

// filled tells the bytes of a sector that is one letter all over.
func filled(letter string) string {
	return strings.Repeat(letter, api.Sector)
}

func wantRead(t *testing.T, d *quarto.Disk, i int, letter string) {
	t.Helper()
	if s, e := d.Read(i); s != filled(letter) || e != api.OK {
		t.Errorf("P5: Read(%d) = %.4q.., %d, want %q", i, s, e, letter)
	}
}

func wantNoRead(t *testing.T, d *quarto.Disk, i int, want api.Errno) {
	t.Helper()
	if s, e := d.Read(i); s != "" || e != want {
		t.Errorf("P5: Read(%d) = %.4q.., %d, want nothing and %d", i, s, e, want)
	}
}

func wantWrite(t *testing.T, d *quarto.Disk, i int, letter string, want api.Errno) {
	t.Helper()
	if e := d.Write(i, filled(letter)); e != want {
		t.Errorf("P5: Write(%d, %q..) = %d, want %d", i, letter, e, want)
	}
}

func wantFlush(t *testing.T, d *quarto.Disk, want api.Errno) {
	t.Helper()
	if e := d.Flush(); e != want {
		t.Errorf("P5: Flush() = %d, want %d", e, want)
	}
}

func wantBreak(t *testing.T, d *quarto.Disk, n int, want api.Errno) {
	t.Helper()
	if e := d.Break(n); e != want {
		t.Errorf("P5: Break(%d) = %d, want %d", n, e, want)
	}
}

func wantCrash(t *testing.T, d *quarto.Disk, keep ...int) {
	t.Helper()
	if e := d.Crash(keep); e != api.OK {
		t.Errorf("P5: Crash(%v) = %d", keep, e)
	}
}

func wantSteps(t *testing.T, d *quarto.Disk, want int) {
	t.Helper()
	if n, e := d.Steps(); n != want || e != api.OK {
		t.Errorf("P5: Steps() = %d, %d, want %d", n, e, want)
	}
}

// wantSafe asks the image of a disk that has zeros all over but for some sectors.
func wantSafe(t *testing.T, d *quarto.Disk, sectors int, letters map[int]string) {
	t.Helper()
	var want strings.Builder
	for i := range sectors {
		if letter, ok := letters[i]; ok {
			want.WriteString(filled(letter))
		} else {
			want.WriteString(filled("\x00"))
		}
	}
	if image, e := d.Image(); image != want.String() || e != api.OK {
		t.Errorf("P5: Image() has %d bytes, %d, and not what is safe: %v", len(image), e, letters)
	}
}

func TestSizesOfNewDisks(t *testing.T) {
	for _, n := range []int{api.MinSectors, api.MinSectors + 1, 300, api.MaxSectors - 1, api.MaxSectors} {
		d := newDisk(t, n)
		if image, e := d.Image(); image != strings.Repeat("\x00", n*api.Sector) || e != api.OK {
			t.Errorf("P5: Image() of a new disk of %d sectors: %d bytes, %d", n, len(image), e)
		}
		wantRead(t, d, 0, "\x00")
		wantRead(t, d, n-1, "\x00")
		wantNoRead(t, d, n, api.ErrSector)
		wantWrite(t, d, n, "a", api.ErrSector)
		wantSteps(t, d, 2)
	}
	for _, n := range []int{api.MinSectors - 1, api.MaxSectors + 1, 0, 1, -1, -256, 1 << 32, 1<<32 + 256, 1 << 62, -1 << 62, math.MaxInt, math.MinInt} {
		if d, e := quarto.NewDisk(n); d != nil || e != api.ErrSize {
			t.Errorf("P5: NewDisk(%d) = %v, %d, want nil and ErrSize", n, d != nil, e)
		}
	}
}

// anImage tells bytes in which no two sectors are the same.
func anImage(sectors int) string {
	bytes := make([]byte, sectors*api.Sector)
	for i := range bytes {
		bytes[i] = byte(i*7 + i/api.Sector*31 + i/(api.Sector*api.Sector))
	}
	return string(bytes)
}

func TestSizesOfImages(t *testing.T) {
	for _, n := range []int{api.MinSectors, 301, api.MaxSectors} {
		image := anImage(n)
		d, e := quarto.LoadDisk(image)
		if d == nil || e != api.OK {
			t.Fatalf("P5: LoadDisk of %d sectors: %d", n, e)
		}
		wantCrash(t, d)
		if got, e := d.Image(); got != image || e != api.OK {
			t.Errorf("P5: Image() is not what was loaded: %d bytes, %d", len(got), e)
		}
		for i := range n {
			if s, e := d.Read(i); s != image[i*api.Sector:(i+1)*api.Sector] || e != api.OK {
				t.Fatalf("P5: Read(%d) of what was loaded: %.4q.., %d", i, s, e)
			}
		}
		wantNoRead(t, d, n, api.ErrSector)
		wantSteps(t, d, n)
	}
	least, most := api.MinSectors*api.Sector, api.MaxSectors*api.Sector
	for _, n := range []int{0, 1, api.Sector, api.MinSectors, least - api.Sector, least - 1, least + 1, least + 255, most - 1, most + 1, most + api.Sector} {
		if d, e := quarto.LoadDisk(strings.Repeat("x", n)); d != nil || e != api.ErrSize {
			t.Errorf("P5: LoadDisk of %d bytes = %v, %d, want nil and ErrSize", n, d != nil, e)
		}
	}
}

func TestWhatIsWrittenIsRead(t *testing.T) {
	d := newDisk(t, 256)
	for i, letter := range []string{"a", "b", "c"} {
		wantWrite(t, d, 100+i, letter, api.OK)
	}
	wantWrite(t, d, 101, "d", api.OK)
	wantRead(t, d, 99, "\x00")
	wantRead(t, d, 100, "a")
	wantRead(t, d, 101, "d")
	wantRead(t, d, 102, "c")
	mixed := anImage(1)
	if e := d.Write(255, mixed); e != api.OK {
		t.Errorf("P5: Write(255) = %d", e)
	}
	if s, e := d.Read(255); s != mixed || e != api.OK {
		t.Errorf("P5: Read(255) = %.8q.., %d", s, e)
	}
	wantSteps(t, d, 10)
}

func TestWrongReadsAndWritesChangeNothing(t *testing.T) {
	d := newDisk(t, 256)
	wantWrite(t, d, 0, "a", api.OK)
	wantFlush(t, d, api.OK)
	for _, i := range append([]int{256}, notSectors...) {
		wantNoRead(t, d, i, api.ErrSector)
		wantWrite(t, d, i, "x", api.ErrSector)
		for _, n := range notCounts {
			if e := d.Write(i, strings.Repeat("x", n)); e != api.ErrSector {
				t.Errorf("P5: Write(%d) of %d bytes = %d, want ErrSector", i, n, e)
			}
		}
	}
	for _, n := range notCounts {
		if e := d.Write(0, strings.Repeat("x", n)); e != api.ErrSize {
			t.Errorf("P5: Write(0) of %d bytes = %d, want ErrSize", n, e)
		}
	}
	wantSteps(t, d, 1)
	wantRead(t, d, 0, "a")
	// A sector that a refused Write had marked as written would stand first in the row.
	wantWrite(t, d, 5, "b", api.OK)
	wantCrash(t, d, 0)
	wantSafe(t, d, 256, map[int]string{0: "a", 5: "b"})
}

func TestOnlyFlushMakesSafe(t *testing.T) {
	d := newDisk(t, 257)
	wantWrite(t, d, 256, "a", api.OK)
	wantWrite(t, d, 3, "b", api.OK)
	wantRead(t, d, 3, "b")
	wantSafe(t, d, 257, nil)
	wantFlush(t, d, api.OK)
	wantSafe(t, d, 257, map[int]string{3: "b", 256: "a"})
	wantWrite(t, d, 3, "c", api.OK)
	wantWrite(t, d, 3, "d", api.OK)
	wantWrite(t, d, 4, "e", api.OK)
	wantSafe(t, d, 257, map[int]string{3: "b", 256: "a"})
	wantRead(t, d, 3, "d")
	wantFlush(t, d, api.OK)
	wantFlush(t, d, api.OK)
	wantSafe(t, d, 257, map[int]string{3: "d", 4: "e", 256: "a"})
	wantCrash(t, d)
	wantSafe(t, d, 257, map[int]string{3: "d", 4: "e", 256: "a"})
	wantRead(t, d, 4, "e")
}

func TestStepsAreReadsAndWrites(t *testing.T) {
	d := newDisk(t, 256)
	wantSteps(t, d, 0)
	wantFlush(t, d, api.OK)
	wantSteps(t, d, 0)
	wantWrite(t, d, 1, "a", api.OK)
	wantSteps(t, d, 1)
	wantRead(t, d, 1, "a")
	wantRead(t, d, 1, "a")
	wantSteps(t, d, 3)
	wantBreak(t, d, 0, api.OK)
	wantNoRead(t, d, 1, api.ErrBroken)
	wantWrite(t, d, 1, "b", api.ErrBroken)
	wantSteps(t, d, 3)
	wantCrash(t, d)
	wantSteps(t, d, 3)
	wantSafe(t, d, 256, nil)
	wantSteps(t, d, 3)
	wantRead(t, d, 1, "\x00")
	wantSteps(t, d, 4)
}

func TestDisksHaveNothingInCommon(t *testing.T) {
	image := anImage(256)
	a, _ := quarto.LoadDisk(image)
	b, _ := quarto.LoadDisk(image)
	wantWrite(t, a, 9, "a", api.OK)
	wantFlush(t, a, api.OK)
	wantBreak(t, a, 0, api.OK)
	wantFlush(t, a, api.ErrBroken)
	wantSteps(t, b, 0)
	if s, e := b.Read(9); s != image[9*api.Sector:10*api.Sector] || e != api.OK {
		t.Errorf("P2: Read(9) of the other disk = %.4q.., %d", s, e)
	}
	if got, e := b.Image(); got != image || e != api.OK {
		t.Errorf("P2: the image of the other disk is another one, %d", e)
	}
	wantFlush(t, b, api.OK)
	wantCrash(t, b)
	wantNoRead(t, a, 9, api.ErrBroken)
}

func TestNilDisk(t *testing.T) {
	var d *quarto.Disk
	for _, i := range append([]int{0, 1}, notSectors...) {
		wantNoRead(t, d, i, api.ErrNil)
		wantWrite(t, d, i, "a", api.ErrNil)
		wantBreak(t, d, i, api.ErrNil)
		if e := d.Write(i, ""); e != api.ErrNil {
			t.Errorf("P1: Write(%d) to nil = %d", i, e)
		}
	}
	wantFlush(t, d, api.ErrNil)
	for _, keep := range [][]int{nil, {}, {0, -1}} {
		if e := d.Crash(keep); e != api.ErrNil {
			t.Errorf("P1: Crash(%v) of nil = %d", keep, e)
		}
	}
	if s, e := d.Image(); s != "" || e != api.ErrNil {
		t.Errorf("P1: Image() of nil = %d bytes, %d", len(s), e)
	}
	if n, e := d.Steps(); n != 0 || e != api.ErrNil {
		t.Errorf("P1: Steps() of nil = %d, %d", n, e)
	}
}

func TestKeepIsNotChangedAndNotKept(t *testing.T) {
	d := newDisk(t, 256)
	wantWrite(t, d, 8, "a", api.OK)
	wantWrite(t, d, 2, "b", api.OK)
	room := []int{9, 1, -4, 1, 77, 5}
	keep := room[1:4]
	if e := d.Crash(keep); e != api.OK {
		t.Errorf("P5: Crash = %d", e)
	}
	if want := []int{9, 1, -4, 1, 77, 5}; !slices.Equal(room, want) {
		t.Errorf("P2: Crash made %v of its list, want %v", room, want)
	}
	keep[0], keep[2] = 0, 0
	wantSafe(t, d, 256, map[int]string{8: "a"})
	wantWrite(t, d, 8, "c", api.OK)
	wantCrash(t, d)
	wantSafe(t, d, 256, map[int]string{8: "a"})
}
