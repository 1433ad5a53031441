package quarto_test

import (
	"math/rand"
	"testing"

	"quarto/api"
	"quarto/quarto"
)

// meter is an index whose calls are asked how many reads and writes they cause.
type meter struct {
	t *testing.T
	d *quarto.Disk
	x *quarto.Index
}

func newMeter(t *testing.T, sectors int) *meter {
	t.Helper()
	d := newDisk(t, sectors)
	return &meter{t, d, openIndex(t, d)}
}

func (m *meter) steps() int {
	m.t.Helper()
	n, e := m.d.Steps()
	if e != api.OK {
		m.t.Fatalf("P5: Steps: %d", e)
	}
	return n
}

// count makes a call: whatever it answers, it may cause so many steps and no more.
func (m *meter) count(name string, id int, call func() api.Errno) api.Errno {
	m.t.Helper()
	ahead := m.steps()
	e := call()
	if n := m.steps() - ahead; n > api.MaxSteps {
		m.t.Fatalf("P9: %s of %d, which answers %d, causes %d reads and writes", name, id, e, n)
	}
	return e
}

func (m *meter) put(id int, r api.Rect) api.Errno {
	m.t.Helper()
	return m.count("Put", id, func() api.Errno { return m.x.Put(id, r) })
}

func (m *meter) remove(id int) api.Errno {
	m.t.Helper()
	return m.count("Delete", id, func() api.Errno { return m.x.Delete(id) })
}

func (m *meter) get(id int) api.Errno {
	m.t.Helper()
	return m.count("Get", id, func() api.Errno { _, e := m.x.Get(id); return e })
}

// want asks whether a call answered one of these.
func (m *meter) want(got api.Errno, answers ...api.Errno) {
	m.t.Helper()
	for _, want := range answers {
		if got == want {
			return
		}
	}
	m.t.Fatalf("P7: a call answers %d, want one of %v", got, answers)
}

// fill puts rectangles in, by rising numbers, until there is no room, and tells how many there are.
func (m *meter) fill(shape func(id int) api.Rect) int {
	m.t.Helper()
	id := 0
	for e := api.OK; e == api.OK; id++ {
		e = m.put(id, shape(id))
		m.want(e, api.OK, api.ErrSpace)
	}
	return id - 1
}

// crosses are rectangles whose cells stand far from each other, and from those
// of the others: what is changed of one of them is changed in many places.
var crosses = []api.Rect{
	rect(32767, 32767, 32768, 32768), rect(16383, 16383, 16384, 16384), rect(49151, 16383, 49152, 16384),
	rect(16383, 49151, 16384, 49152), rect(49151, 49151, 49152, 49152), rect(0, 0, last, last),
}

// shapes are ways to fill an index. What is put in by rising numbers at one
// place leaves as little in each node as may be: that is the highest tree.
func shapes() map[string]func(id int) api.Rect {
	random := rand.New(rand.NewSource(9))
	return map[string]func(id int) api.Rect{
		"at one place":  func(int) api.Rect { return crosses[0] },
		"at few places": func(id int) api.Rect { return crosses[id%len(crosses)] },
		"all over":      func(int) api.Rect { return fourCells(random) },
		"points":        func(id int) api.Rect { return rect(id%256*256, id/256*256, id%256*256, id/256*256) },
	}
}

// TestStepsOfAFullIndex fills a disk, changes what is there, and takes all of it out.
func TestStepsOfAFullIndex(t *testing.T) {
	t.Parallel()
	for name, shape := range shapes() {
		t.Run(name, func(t *testing.T) {
			t.Parallel()
			m := newMeter(t, api.MaxSectors)
			full := m.fill(shape)
			random := rand.New(rand.NewSource(int64(full)))
			for range 300 {
				m.want(m.put(random.Intn(full), crosses[random.Intn(len(crosses))]), api.OK, api.ErrSpace)
				m.want(m.put(full+random.Intn(full), shape(random.Intn(full))), api.OK, api.ErrSpace)
				m.want(m.get(random.Intn(full)), api.OK)
				m.want(m.get(api.MaxId-random.Intn(full)), api.ErrMissing)
				m.want(m.remove(api.MaxId-random.Intn(full)), api.ErrMissing)
			}
			m.x = openIndex(t, m.d)
			for _, id := range random.Perm(2 * full) {
				m.want(m.remove(id), api.OK, api.ErrMissing)
			}
			wantCount(t, m.x, 0, api.OK)
		})
	}
}

// TestStepsByTheOrderOfNumbers takes out, at the edges of all nodes in turn,
// what was put in by rising or by falling numbers.
func TestStepsByTheOrderOfNumbers(t *testing.T) {
	t.Parallel()
	room := roomOf(api.MaxSectors)
	up := func(i int) int { return i }
	down := func(i int) int { return room - 1 - i }
	for _, in := range []func(int) int{up, down} {
		for _, out := range []func(int) int{up, down} {
			m := newMeter(t, api.MaxSectors)
			for i := range room {
				m.want(m.put(in(i), crosses[0]), api.OK)
			}
			for i := range room {
				m.want(m.get(out(i)), api.OK)
				m.want(m.put(out(i), crosses[1]), api.OK)
			}
			for i := range room {
				m.want(m.remove(out(i)), api.OK)
			}
		}
	}
}

// TestStepsOfCallsThatBreak counts them behind crashes, too, and in calls that break.
func TestStepsOfCallsThatBreak(t *testing.T) {
	t.Parallel()
	m := newMeter(t, 2000)
	random := rand.New(rand.NewSource(4))
	for id := range roomOf(2000) {
		m.want(m.put(id, crosses[id%len(crosses)]), api.OK)
	}
	for n := range 200 {
		wantBreak(t, m.d, n%70, api.OK)
		id := random.Intn(roomOf(2000))
		if m.get(id) == api.OK && random.Intn(2) == 0 {
			m.want(m.remove(id), api.OK, api.ErrBroken, api.ErrDead)
		} else {
			m.want(m.put(id, fourCells(random)), api.OK, api.ErrBroken, api.ErrDead)
		}
		wantCrash(t, m.d, random.Perm(50)[:random.Intn(50)]...)
		m.x = openIndex(t, m.d)
	}
}
