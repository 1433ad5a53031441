package quarto_test

import (
	"testing"

	"quarto/api"
	"quarto/quarto"
)

// callsOfAnIndex are all its calls; each answers its error alone.
var callsOfAnIndex = map[string]func(x *quarto.Index) api.Errno{
	"Put of a new number": func(x *quarto.Index) api.Errno { return x.Put(9, whole) },
	"Put":                 func(x *quarto.Index) api.Errno { return x.Put(7, rect(1, 1, 1, 1)) },
	"Put of the same":     func(x *quarto.Index) api.Errno { return x.Put(7, rect(3, 3, 4, 4)) },
	"Delete":              func(x *quarto.Index) api.Errno { return x.Delete(7) },
	"Delete of none":      func(x *quarto.Index) api.Errno { return x.Delete(9) },
	"Get":                 func(x *quarto.Index) api.Errno { _, e := x.Get(7); return e },
	"Get of none":         func(x *quarto.Index) api.Errno { _, e := x.Get(9); return e },
	"Window":              func(x *quarto.Index) api.Errno { _, e := x.Window(whole); return e },
	"Window of none":      func(x *quarto.Index) api.Errno { _, e := x.Window(rect(9, 9, 9, 9)); return e },
	"Count":               func(x *quarto.Index) api.Errno { _, e := x.Count(); return e },
}

// TestEachCallAsksTheDisk lets each call be the first one of a disk that is
// broken, or will not do another call.
func TestEachCallAsksTheDisk(t *testing.T) {
	for name, call := range callsOfAnIndex {
		for _, empty := range []bool{true, false} {
			for _, broken := range []bool{true, false} {
				d := newDisk(t, api.MinSectors)
				x := openIndex(t, d)
				m := table{}
				if !empty {
					m.wantPut(t, x, 7, rect(3, 3, 4, 4))
				}
				wantBreak(t, d, 0, api.OK)
				if broken {
					wantFlush(t, d, api.ErrBroken)
				}
				if e := call(x); e != api.ErrBroken {
					t.Errorf("P7: %s: %d (empty: %v, broken ahead: %v)", name, e, empty, broken)
				}
				wantAll(t, x, api.ErrDead)
				wantCrash(t, d)
				wantAll(t, x, api.ErrDead)
				m.wantIn(t, openIndex(t, d))
			}
		}
	}
}

// TestADeadIndexIsDeadFirst holds that ErrDead stands ahead of the other errors.
func TestADeadIndexIsDeadFirst(t *testing.T) {
	d := newDisk(t, api.MinSectors)
	x := openIndex(t, d)
	wantBreak(t, d, 0, api.OK)
	wantCount(t, x, 0, api.ErrBroken)
	for _, id := range notIds {
		wantPut(t, x, id, rect(1, 0, 0, 0), api.ErrDead)
		wantDelete(t, x, id, api.ErrDead)
		wantGet(t, x, id, api.Rect{}, api.ErrDead)
	}
	for _, r := range wrongRects() {
		wantPut(t, x, 7, r, api.ErrDead)
		wantWindow(t, x, r, nil, api.ErrDead)
	}
}

// TestWrongArgumentsOfABrokenDisk holds that they are told ahead of it, and that
// an index which told no ErrBroken is not dead.
func TestWrongArgumentsOfABrokenDisk(t *testing.T) {
	d := newDisk(t, api.MinSectors)
	x := openIndex(t, d)
	m := table{}
	m.wantPut(t, x, 7, whole)
	wantBreak(t, d, 0, api.OK)
	wantFlush(t, d, api.ErrBroken)
	wantPut(t, x, -1, whole, api.ErrId)
	wantPut(t, x, -1, rect(1, 0, 0, 0), api.ErrId)
	wantPut(t, x, 7, rect(1, 0, 0, 0), api.ErrRect)
	wantDelete(t, x, api.MaxId+1, api.ErrId)
	wantGet(t, x, -1, api.Rect{}, api.ErrId)
	wantWindow(t, x, rect(0, 0, 0, last+1), nil, api.ErrRect)
	wantCrash(t, d)
	m.wantIn(t, x)
}

// TestOtherErrorsDoNotKill holds that an index dies of ErrBroken alone.
func TestOtherErrorsDoNotKill(t *testing.T) {
	x := newIndex(t, api.MinSectors)
	wantPut(t, x, -1, whole, api.ErrId)
	wantPut(t, x, 1, rect(1, 0, 0, 0), api.ErrRect)
	wantDelete(t, x, 1, api.ErrMissing)
	wantGet(t, x, 1, api.Rect{}, api.ErrMissing)
	wantWindow(t, x, rect(1, 0, 0, 0), nil, api.ErrRect)
	m := table{}
	m.wantPut(t, x, 1, whole)
	m.wantIn(t, x)
}

// TestBreakInTheCall lets the disk break behind each number of calls: each
// answer but OK is ErrBroken, and the index is dead then.
func TestBreakInTheCall(t *testing.T) {
	for _, name := range []string{"Put of a new number", "Put", "Delete"} {
		for n := 0; ; n++ {
			d := newDisk(t, api.MinSectors)
			x := openIndex(t, d)
			wantPut(t, x, 7, rect(3, 3, 4, 4), api.OK)
			wantBreak(t, d, n, api.OK)
			e := callsOfAnIndex[name](x)
			if e == api.OK && n > 0 {
				break
			}
			if e != api.ErrBroken {
				t.Fatalf("P7: %s with %d calls left: %d", name, n, e)
			}
			wantAll(t, x, api.ErrDead)
		}
	}
}
