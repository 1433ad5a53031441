package quarto_test

import (
	"math/rand"
	"strings"
	"testing"

	"quarto/api"
	"quarto/quarto"
)

func loadDisk(t *testing.T, image string) *quarto.Disk {
	t.Helper()
	d, e := quarto.LoadDisk(image)
	if d == nil || e != api.OK {
		t.Fatalf("P5: LoadDisk: %d", e)
	}
	return d
}

// indexImage tells the bytes of a disk with an index, and what this has.
func indexImage(t *testing.T, sectors int, rects int) (string, table) {
	t.Helper()
	random := rand.New(rand.NewSource(int64(rects)))
	d := newDisk(t, sectors)
	x := openIndex(t, d)
	m := table{}
	for id := range rects {
		m.wantPut(t, x, id*3, nearRect(random))
	}
	image, _ := d.Image()
	return image, m
}

func TestOpenOfWhatIsOnTheDisk(t *testing.T) {
	for _, rects := range []int{0, 1, 2, 5, 14, 100} {
		image, m := indexImage(t, 700, rects)
		d := loadDisk(t, image)
		for range 3 {
			m.wantIn(t, openIndex(t, d))
		}
	}
}

func TestOpenOfABrokenDisk(t *testing.T) {
	good, m := indexImage(t, 300, 9)
	for _, image := range []string{good, strings.Repeat("\x00", len(good)), strings.Repeat("a", len(good))} {
		d := loadDisk(t, image)
		wantBreak(t, d, 0, api.OK)
		wantNoIndex(t, d, api.ErrBroken)
		wantNoIndex(t, d, api.ErrBroken)
	}
	d := loadDisk(t, good)
	wantBreak(t, d, 0, api.OK)
	wantFlush(t, d, api.ErrBroken)
	wantNoIndex(t, d, api.ErrBroken)
	wantCrash(t, d)
	m.wantIn(t, openIndex(t, d))
}

// TestOpenThatBreaks lets the disk break behind each number of calls of an Open.
func TestOpenThatBreaks(t *testing.T) {
	image, m := indexImage(t, 300, 9)
	for n := 0; ; n++ {
		d := loadDisk(t, image)
		wantBreak(t, d, n, api.OK)
		x, e := quarto.Open(d)
		wantCrash(t, d)
		if e == api.OK {
			m.wantIn(t, x)
			break
		}
		if x != nil || e != api.ErrBroken {
			t.Fatalf("P6: Open with %d calls left: %d", n, e)
		}
		m.wantIn(t, openIndex(t, d))
	}
}

func TestOpenOfBytesThatAreNoIndex(t *testing.T) {
	size := 300 * api.Sector
	random := rand.New(rand.NewSource(1))
	noise := make([]byte, size)
	random.Read(noise)
	for _, image := range []string{strings.Repeat("a", size), strings.Repeat("\xff", size), strings.Repeat("\x01", size), string(noise)} {
		d := loadDisk(t, image)
		wantNoIndex(t, d, api.ErrCorrupt)
		if now := written(t, d); now != image {
			t.Error("P1: Open has changed a disk on which there is no index")
		}
	}
}

// TestOpenOfNoIndexMakesNothingSafe holds that an Open which answers an error does not flush.
func TestOpenOfNoIndexMakesNothingSafe(t *testing.T) {
	image, m := indexImage(t, 300, 9)
	d := loadDisk(t, image)
	for i := range 300 {
		wantWrite(t, d, i, "a", api.OK)
	}
	wantNoIndex(t, d, api.ErrCorrupt)
	if now, _ := d.Image(); now != image {
		t.Error("P1: Open made safe what is no index")
	}
	wantCrash(t, d)
	m.wantIn(t, openIndex(t, d))
}

// TestOpenOfWhatIsNotSafe holds that what an index was made of is not lost.
func TestOpenOfWhatIsNotSafe(t *testing.T) {
	image, m := indexImage(t, 300, 9)
	for _, calls := range []int{0, 1, 2} {
		d := newDisk(t, 300)
		for i := range 300 {
			if e := d.Write(i, image[i*api.Sector:(i+1)*api.Sector]); e != api.OK {
				t.Fatalf("P5: Write(%d): %d", i, e)
			}
		}
		x := openIndex(t, d)
		wantBreak(t, d, calls, api.OK)
		wantPut(t, x, 0, whole, api.ErrBroken)
		wantCrash(t, d)
		m.wantIn(t, openIndex(t, d))
	}
}

// wantSomeIndex asks whether an index keeps to the rectangles that it has, whatever they are.
func wantSomeIndex(t *testing.T, d *quarto.Disk, x *quarto.Index, random *rand.Rand) {
	t.Helper()
	m := tableOf(t, x)
	for range 12 {
		oneIndexCall(t, random, x, m, 40)
	}
	for _, id := range m.window(whole) {
		m.wantDelete(t, x, id)
	}
	m.wantIn(t, x)
	m.wantIn(t, openIndex(t, d))
}

// wantIndexOrNone opens a disk of any bytes.
func wantIndexOrNone(t *testing.T, image string, random *rand.Rand) {
	t.Helper()
	d := loadDisk(t, image)
	x, e := quarto.Open(d)
	switch {
	case x != nil && e == api.OK:
		wantSomeIndex(t, d, x, random)
	case x != nil || e != api.ErrCorrupt:
		t.Fatalf("P6: Open: %d", e)
	}
}

// TestOpenOfOtherBytes changes single bytes of an index, in each sector that it uses.
func TestOpenOfOtherBytes(t *testing.T) {
	random := rand.New(rand.NewSource(1))
	for _, rects := range []int{1, 3, 40} {
		image, _ := indexImage(t, 400, rects)
		for i := range image {
			if image[i] == 0 && random.Intn(1000) > 0 {
				continue
			}
			b := []byte(image)
			b[i] ^= byte(1 << random.Intn(8))
			wantIndexOrNone(t, string(b), random)
		}
	}
}

// TestOpenOfMixedSectors lays sectors of an index in each other's place.
func TestOpenOfMixedSectors(t *testing.T) {
	random := rand.New(rand.NewSource(2))
	image, _ := indexImage(t, 400, 40)
	older, _ := indexImage(t, 400, 30)
	for range 300 {
		b := []byte(image)
		for range 1 + random.Intn(3) {
			from, to := random.Intn(60)*api.Sector, random.Intn(60)*api.Sector
			copy(b[to:to+api.Sector], []string{image, older}[random.Intn(2)][from:])
		}
		wantIndexOrNone(t, string(b), random)
	}
}
