package quarto_test

import (
	"math"
	"math/rand"
	"slices"
	"testing"

	"quarto/api"
	"quarto/quarto"
)

// notIds are numbers that no rectangle may have.
var notIds = []int{-1, -1 << 62, math.MinInt, api.MaxId + 1, math.MaxInt}

var whole = api.Rect{X2: last, Y2: last}

func openIndex(t *testing.T, d *quarto.Disk) *quarto.Index {
	t.Helper()
	x, e := quarto.Open(d)
	if x == nil || e != api.OK {
		t.Fatalf("P6: Open: %d", e)
	}
	return x
}

func wantNoIndex(t *testing.T, d *quarto.Disk, want api.Errno) {
	t.Helper()
	if x, e := quarto.Open(d); x != nil || e != want {
		t.Errorf("P6: Open: %d, want none and %d", e, want)
	}
}

func newIndex(t *testing.T, sectors int) *quarto.Index {
	t.Helper()
	return openIndex(t, newDisk(t, sectors))
}

func wantPut(t *testing.T, x *quarto.Index, id int, r api.Rect, want api.Errno) {
	t.Helper()
	if e := x.Put(id, r); e != want {
		t.Fatalf("P7: Put(%d, %v) = %d, want %d", id, r, e, want)
	}
}

func wantDelete(t *testing.T, x *quarto.Index, id int, want api.Errno) {
	t.Helper()
	if e := x.Delete(id); e != want {
		t.Fatalf("P7: Delete(%d) = %d, want %d", id, e, want)
	}
}

func wantGet(t *testing.T, x *quarto.Index, id int, r api.Rect, want api.Errno) {
	t.Helper()
	if got, e := x.Get(id); got != r || e != want {
		t.Fatalf("P7: Get(%d) = %v, %d, want %v, %d", id, got, e, r, want)
	}
}

func wantWindow(t *testing.T, x *quarto.Index, w api.Rect, ids []int, want api.Errno) {
	t.Helper()
	if got, e := x.Window(w); !slices.Equal(got, ids) || e != want {
		t.Fatalf("P7: Window(%v) = %v, %d, want %v, %d", w, got, e, ids, want)
	}
}

func wantCount(t *testing.T, x *quarto.Index, n int, want api.Errno) {
	t.Helper()
	if got, e := x.Count(); got != n || e != want {
		t.Fatalf("P7: Count() = %d, %d, want %d, %d", got, e, n, want)
	}
}

// wantAll asks for one error from all calls of an index, with an argument that is right.
func wantAll(t *testing.T, x *quarto.Index, want api.Errno) {
	t.Helper()
	wantPut(t, x, 7, whole, want)
	wantDelete(t, x, 7, want)
	wantGet(t, x, 7, api.Rect{}, want)
	wantWindow(t, x, whole, nil, want)
	wantCount(t, x, 0, want)
}

// table is rectangles by numbers, as an index should have them.
type table map[int]api.Rect

// tableOf tells what an index has.
func tableOf(t *testing.T, x *quarto.Index) table {
	t.Helper()
	m := table{}
	ids, e := x.Window(whole)
	for _, id := range ids {
		var e api.Errno
		if m[id], e = x.Get(id); e != api.OK {
			t.Fatalf("P7: Get(%d): %d", id, e)
		}
	}
	if e != api.OK {
		t.Fatalf("P7: Window: %d", e)
	}
	return m
}

func (m table) window(w api.Rect) []int {
	var ids []int
	for id, r := range m {
		if meet(r, w) {
			ids = append(ids, id)
		}
	}
	slices.Sort(ids)
	return ids
}

// wantIn asks whether an index has just what the table has.
func (m table) wantIn(t *testing.T, x *quarto.Index) {
	t.Helper()
	wantCount(t, x, len(m), api.OK)
	wantWindow(t, x, whole, m.window(whole), api.OK)
	for id, r := range m {
		wantGet(t, x, id, r, api.OK)
	}
}

func (m table) wantPut(t *testing.T, x *quarto.Index, id int, r api.Rect) {
	t.Helper()
	wantPut(t, x, id, r, api.OK)
	m[id] = r
}

func (m table) wantDelete(t *testing.T, x *quarto.Index, id int) {
	t.Helper()
	if _, ok := m[id]; !ok {
		wantDelete(t, x, id, api.ErrMissing)
		return
	}
	wantDelete(t, x, id, api.OK)
	delete(m, id)
}

func TestExampleOfTheIndex(t *testing.T) {
	d := newDisk(t, api.MinSectors)
	x := openIndex(t, d)
	wantPut(t, x, 7, rect(10, 10, 20, 20), api.OK)
	wantPut(t, x, 3, rect(15, 0, 15, last), api.OK)
	wantWindow(t, x, rect(15, 12, 15, 12), []int{3, 7}, api.OK)
	wantWindow(t, x, rect(0, 0, 14, 9), nil, api.OK)
	wantPut(t, x, 7, rect(0, 0, 0, 0), api.OK)
	wantWindow(t, x, rect(0, 0, 14, 9), []int{7}, api.OK)
	wantBreak(t, d, 0, api.OK)
	wantPut(t, x, 9, whole, api.ErrBroken)
	wantGet(t, x, 7, api.Rect{}, api.ErrDead)
	wantCrash(t, d)
	table{3: rect(15, 0, 15, last), 7: rect(0, 0, 0, 0)}.wantIn(t, openIndex(t, d))
}

func TestAnEmptyIndex(t *testing.T) {
	x := newIndex(t, api.MinSectors)
	for range 2 {
		table{}.wantIn(t, x)
		for _, id := range []int{0, 7, api.MaxId} {
			wantGet(t, x, id, api.Rect{}, api.ErrMissing)
			wantDelete(t, x, id, api.ErrMissing)
		}
		wantPut(t, x, 7, whole, api.OK)
		wantDelete(t, x, 7, api.OK)
	}
}

func TestNumbersAndRectanglesAtTheEdges(t *testing.T) {
	d := newDisk(t, 300)
	x := openIndex(t, d)
	m := table{}
	corners := []api.Rect{rect(0, 0, 0, 0), rect(last, 0, last, 0), rect(0, last, 0, last), rect(last, last, last, last)}
	for i, id := range []int{0, 1, api.MaxId - 1, api.MaxId} {
		m.wantPut(t, x, id, corners[i])
	}
	m.wantPut(t, x, 2, whole)
	m.wantPut(t, x, 3, rect(0, 32767, last, 32768))
	m.wantIn(t, x)
	for _, w := range append(corners, rect(0, 1, last, last-1), rect(32768, 32768, 32768, 32768), rect(0, 0, last, 0)) {
		wantWindow(t, x, w, m.window(w), api.OK)
	}
	m.wantIn(t, openIndex(t, d))
	m.wantDelete(t, x, api.MaxId)
	m.wantDelete(t, x, 0)
	m.wantIn(t, x)
}

// TestPutInPlaceOfAnother holds that nothing of the rectangle that had the number is left.
func TestPutInPlaceOfAnother(t *testing.T) {
	places := []api.Rect{
		rect(3, 3, 4, 4), rect(3, 3, 4, 4), rect(3, 3, 3, 4), rect(60000, 60000, 60001, 60001),
		whole, rect(5, 5, 5, 5), rect(4, 4, 5, 5), rect(0, 0, 32768, 32768),
	}
	x := newIndex(t, api.MinSectors)
	wantPut(t, x, 1, rect(3, 3, 4, 4), api.OK)
	for _, r := range places {
		wantPut(t, x, 8, r, api.OK)
		wantGet(t, x, 8, r, api.OK)
		wantCount(t, x, 2, api.OK)
		for _, w := range places {
			wantWindow(t, x, w, table{1: rect(3, 3, 4, 4), 8: r}.window(w), api.OK)
		}
	}
}

func TestManyOfOneRectangle(t *testing.T) {
	x := newIndex(t, 1000)
	m := table{}
	for id := range 150 {
		m.wantPut(t, x, id*7919%10007, rect(32767, 32767, 32768, 32768))
	}
	m.wantIn(t, x)
	wantWindow(t, x, rect(32768, 32768, 32768, 32768), m.window(whole), api.OK)
	wantWindow(t, x, rect(32769, 32768, 32769, 32768), nil, api.OK)
	for id := range 150 {
		m.wantDelete(t, x, id*7919%10007)
	}
	m.wantIn(t, x)
}

// TestAllSmallWindows puts all rectangles of a small square in, and asks for all of its windows.
func TestAllSmallWindows(t *testing.T) {
	for _, at := range [][2]int{{0, 0}, {last - 3, last - 3}, {32766, 32766}, {6, 5}} {
		x := newIndex(t, 700)
		m := table{}
		rects := smallRects(at[0], at[1], 4)
		for i, r := range rects {
			m.wantPut(t, x, len(rects)-i, r)
		}
		for _, w := range rects {
			wantWindow(t, x, w, m.window(w), api.OK)
		}
	}
}

func TestWrongNumbers(t *testing.T) {
	x := newIndex(t, api.MinSectors)
	m := table{}
	m.wantPut(t, x, 7, whole)
	for _, id := range notIds {
		wantPut(t, x, id, whole, api.ErrId)
		wantPut(t, x, id, rect(1, 0, 0, 0), api.ErrId)
		wantDelete(t, x, id, api.ErrId)
		wantGet(t, x, id, api.Rect{}, api.ErrId)
	}
	m.wantIn(t, x)
}

func TestWrongRectangles(t *testing.T) {
	x := newIndex(t, api.MinSectors)
	m := table{}
	m.wantPut(t, x, 7, whole)
	for _, r := range wrongRects() {
		wantPut(t, x, 7, r, api.ErrRect)
		wantPut(t, x, 8, r, api.ErrRect)
		wantWindow(t, x, r, nil, api.ErrRect)
	}
	m.wantIn(t, x)
}

// oneIndexCall makes one call of an index, and of the table that it should be like.
func oneIndexCall(t *testing.T, random *rand.Rand, x *quarto.Index, m table, ids int) {
	t.Helper()
	id := random.Intn(ids)
	if random.Intn(2) == 0 {
		id = api.MaxId - id
	}
	switch random.Intn(6) {
	case 0, 1:
		m.wantPut(t, x, id, nearRect(random))
	case 2:
		m.wantDelete(t, x, id)
	case 3:
		r, ok := m[id]
		want := api.ErrMissing
		if ok {
			want = api.OK
		}
		wantGet(t, x, id, r, want)
	case 4:
		w := nearRect(random)
		wantWindow(t, x, w, m.window(w), api.OK)
	case 5:
		wantCount(t, x, len(m), api.OK)
	}
}

// nearRect tells a rectangle that lies anywhere, or near to others.
func nearRect(random *rand.Rand) api.Rect {
	if random.Intn(2) == 0 {
		return anyRect(random)
	}
	x, y := 32760+random.Intn(16), 16380+random.Intn(8)
	return rect(x, y, x+random.Intn(9), y+random.Intn(1<<random.Intn(14)))
}

// TestManyCallsOfAnIndex holds an index against a table; now and then it is
// opened anew, on its disk, behind a crash, or on another with the same bytes.
func TestManyCallsOfAnIndex(t *testing.T) {
	for seed := range int64(8) {
		random := rand.New(rand.NewSource(seed))
		d := newDisk(t, 900)
		x := openIndex(t, d)
		m := table{}
		ids := 1 + random.Intn(80)
		for range 1000 {
			switch random.Intn(60) {
			case 0:
				x = openIndex(t, d)
			case 1:
				wantCrash(t, d)
				x = openIndex(t, d)
			case 2:
				image, _ := d.Image()
				d, _ = quarto.LoadDisk(image)
				x = openIndex(t, d)
			case 3:
				wantCrash(t, d) // an index goes on behind it: all it wrote is safe
			}
			oneIndexCall(t, random, x, m, ids)
		}
		m.wantIn(t, x)
		m.wantIn(t, openIndex(t, d))
	}
}

func TestWindowIsNewMemory(t *testing.T) {
	x := newIndex(t, api.MinSectors)
	for id := range 5 {
		wantPut(t, x, id, rect(3, 3, 4+id, 4), api.OK)
	}
	one, _ := x.Window(whole)
	two, _ := x.Window(whole)
	one = one[:cap(one)]
	for i := range one {
		one[i] = 99
	}
	if !slices.Equal(two, []int{0, 1, 2, 3, 4}) {
		t.Errorf("P2: one answer is changed through another: %v", two)
	}
	wantWindow(t, x, whole, []int{0, 1, 2, 3, 4}, api.OK)
}

func TestIndexesOfTwoDisks(t *testing.T) {
	x, y := newIndex(t, 256), newIndex(t, 256)
	a, b := table{}, table{}
	for id := range 14 {
		a.wantPut(t, x, id, rect(id, 0, 20, 20))
		b.wantPut(t, y, id*2, rect(0, id, 20, 20))
	}
	a.wantDelete(t, x, 4)
	a.wantIn(t, x)
	b.wantIn(t, y)
}

func TestNilIndex(t *testing.T) {
	var x *quarto.Index
	wantAll(t, x, api.ErrNil)
	for _, id := range notIds {
		wantPut(t, x, id, rect(1, 0, 0, 0), api.ErrNil)
		wantDelete(t, x, id, api.ErrNil)
		wantGet(t, x, id, api.Rect{}, api.ErrNil)
	}
	wantWindow(t, x, rect(1, 0, 0, 0), nil, api.ErrNil)
	wantNoIndex(t, nil, api.ErrNil)
}
