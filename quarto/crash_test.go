package quarto_test

import (
	"math"
	"math/rand"
	"slices"
	"strings"
	"testing"

	"quarto/api"
	"quarto/quarto"
)

// halfWritten makes a disk with "s" safe in four sectors, and "a" to "d" written there.
func halfWritten(t *testing.T) *quarto.Disk {
	t.Helper()
	d := newDisk(t, 256)
	for _, i := range []int{10, 20, 30, 250} {
		wantWrite(t, d, i, "s", api.OK)
	}
	wantFlush(t, d, api.OK)
	wantWrite(t, d, 250, "d", api.OK)
	wantWrite(t, d, 10, "x", api.OK)
	wantWrite(t, d, 30, "c", api.OK)
	wantWrite(t, d, 20, "b", api.OK)
	wantWrite(t, d, 10, "a", api.OK)
	return d
}

func TestCrashKeepsPlacesInTheRow(t *testing.T) {
	for _, c := range []struct {
		keep []int
		want string // of the sectors 10, 20, 30 and 250
	}{
		{nil, "ssss"}, {[]int{}, "ssss"}, {[]int{0}, "asss"}, {[]int{1}, "sbss"}, {[]int{3}, "sssd"},
		{[]int{0, 1, 2, 3}, "abcd"}, {[]int{3, 0}, "assd"}, {[]int{2, 2, 2, 1, 1}, "sbcs"},
		{[]int{4, -1, 10, 20, 30, 250}, "ssss"}, {[]int{-4, 2}, "sscs"},
		{[]int{math.MaxInt, math.MinInt, 1 << 62, 1 << 32, 1<<32 + 1}, "ssss"},
		{[]int{5, 3, 4, 1, -1}, "sbsd"},
	} {
		d := halfWritten(t)
		wantCrash(t, d, c.keep...)
		letters := map[int]string{}
		for place, i := range []int{10, 20, 30, 250} {
			letters[i] = c.want[place : place+1]
			wantRead(t, d, i, letters[i])
		}
		wantSafe(t, d, 256, letters)
		wantCrash(t, d, 0, 1)
		wantSafe(t, d, 256, letters)
	}
}

// A sector stands in the row once it was written, even with the bytes it had.
func TestSameBytesAreWrittenToo(t *testing.T) {
	d := newDisk(t, 256)
	wantWrite(t, d, 3, "\x00", api.OK)
	wantWrite(t, d, 5, "a", api.OK)
	wantWrite(t, d, 7, "b", api.OK)
	wantWrite(t, d, 7, "\x00", api.OK)
	wantWrite(t, d, 9, "c", api.OK)
	wantCrash(t, d, 1, 2)
	wantSafe(t, d, 256, map[int]string{5: "a"})
}

func TestCrashOfADiskThatWasFlushed(t *testing.T) {
	d := halfWritten(t)
	wantFlush(t, d, api.OK)
	wantWrite(t, d, 30, "z", api.OK)
	wantCrash(t, d)
	wantSafe(t, d, 256, map[int]string{10: "a", 20: "b", 30: "c", 250: "d"})
	wantWrite(t, d, 30, "z", api.OK)
	wantCrash(t, d, 0)
	wantSafe(t, d, 256, map[int]string{10: "a", 20: "b", 30: "z", 250: "d"})
}

func TestCrashWithALongList(t *testing.T) {
	d := newDisk(t, api.MaxSectors)
	for i := range api.MaxSectors {
		wantWrite(t, d, api.MaxSectors-1-i, "a", api.OK)
	}
	var keep []int
	for place := range 100000 {
		if place%2 == 1 {
			keep = append(keep, place)
		}
	}
	wantCrash(t, d, keep...)
	var image strings.Builder
	for i := range api.MaxSectors {
		image.WriteString(filled(string("\x00a"[i%2])))
	}
	if got, e := d.Image(); got != image.String() || e != api.OK {
		t.Errorf("P5: Image() behind a Crash that kept every other sector: %d bytes, %d", len(got), e)
	}
}

// toy is a disk in the document's words: two whole copies of the sectors.
type toy struct {
	now, safe []string
	written   []bool
	counts    bool
	left      int
	broken    bool
	steps     int
}

func newToy(sectors int) *toy {
	zeros := slices.Repeat([]string{filled("\x00")}, sectors)
	return &toy{now: slices.Clone(zeros), safe: zeros, written: make([]bool, sectors)}
}

func (m *toy) stops() bool {
	m.broken = m.broken || m.counts && m.left == 0
	return m.broken
}

func (m *toy) read(i int) (string, api.Errno) {
	if i < 0 || i >= len(m.now) {
		return "", api.ErrSector
	}
	if m.stops() {
		return "", api.ErrBroken
	}
	m.steps++
	return m.now[i], api.OK
}

func (m *toy) write(i int, bytes string) api.Errno {
	if i < 0 || i >= len(m.now) {
		return api.ErrSector
	}
	if len(bytes) != 256 {
		return api.ErrSize
	}
	if m.stops() {
		return api.ErrBroken
	}
	m.left--
	m.steps++
	m.now[i], m.written[i] = bytes, true
	return api.OK
}

func (m *toy) flush() api.Errno {
	if m.stops() {
		return api.ErrBroken
	}
	m.left--
	m.safe = slices.Clone(m.now)
	m.written = make([]bool, len(m.now))
	return api.OK
}

func (m *toy) breakAfter(n int) api.Errno {
	if n < 0 {
		return api.ErrArg
	}
	m.counts, m.left = true, n
	return api.OK
}

func (m *toy) crash(keep []int) {
	place := 0
	for i, written := range m.written {
		if !written {
			continue
		}
		if slices.Contains(keep, place) {
			m.safe[i] = m.now[i]
		}
		place++
	}
	m.now = slices.Clone(m.safe)
	m.written = make([]bool, len(m.now))
	m.broken, m.counts = false, false
}

// oneCall does one call at random to both disks, and holds their answers against each other.
func oneCall(t *testing.T, random *rand.Rand, d *quarto.Disk, m *toy) {
	t.Helper()
	i := random.Intn(len(m.now)/16+2)*16 - 16
	switch random.Intn(16) {
	default:
		n := api.Sector
		if random.Intn(9) == 0 {
			n = random.Intn(600)
		}
		bytes := strings.Repeat(string(rune('a'+random.Intn(26))), n)
		if got, want := d.Write(i, bytes), m.write(i, bytes); got != want {
			t.Fatalf("P5: Write(%d) of %d bytes = %d, want %d", i, n, got, want)
		}
	case 0, 1, 2, 3, 4:
		got, e := d.Read(i)
		if want, f := m.read(i); got != want || e != f {
			t.Fatalf("P5: Read(%d) = %.4q.., %d, want %.4q.., %d", i, got, e, want, f)
		}
	case 5:
		if got, want := d.Flush(), m.flush(); got != want {
			t.Fatalf("P5: Flush() = %d, want %d", got, want)
		}
	case 6:
		n := random.Intn(40) - 2
		if got, want := d.Break(n), m.breakAfter(n); got != want {
			t.Fatalf("P5: Break(%d) = %d, want %d", n, got, want)
		}
	case 7:
		var keep []int
		for range random.Intn(12) {
			keep = append(keep, random.Intn(14)-1)
		}
		m.crash(keep)
		wantCrash(t, d, keep...)
	}
}

func TestManyCallsOfADisk(t *testing.T) {
	random := rand.New(rand.NewSource(23))
	for range 40 {
		sectors := api.MinSectors + random.Intn(40)
		d, m := newDisk(t, sectors), newToy(sectors)
		for range 400 {
			oneCall(t, random, d, m)
			if n, e := d.Steps(); n != m.steps || e != api.OK {
				t.Fatalf("P5: Steps() = %d, %d, want %d", n, e, m.steps)
			}
			if random.Intn(8) == 0 {
				if image, e := d.Image(); image != strings.Join(m.safe, "") || e != api.OK {
					t.Fatalf("P5: Image() is not what is safe, %d", e)
				}
			}
		}
	}
}
