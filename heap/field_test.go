package heap_test

import (
	"math"
	"testing"

	"mooring/api"
)

// outside answers fields that are none where there are count.
func outside(count int) []int {
	return []int{math.MinInt, math.MinInt + 1, -1 << 32, -8, -2, -1, count, count + 1, 16, 64, 1 << 8, 1 << 16, 1 << 32, math.MaxInt - 1, math.MaxInt}
}

// noRef: is there no such reference, read or written?
func (w *twin) noRef(t *testing.T, serial uint64, field int) {
	t.Helper()
	if x, e := w.h.Ref(serial, field); x != none || e != api.ErrBadHandle {
		t.Fatalf("8.2: Ref(%d, %d) answered %v, %d", serial, field, x, e)
	}
	for _, x := range rightIDs {
		if was, e := w.h.SetRef(serial, field, x); was != none || e != api.ErrBadHandle {
			t.Fatalf("8.2: SetRef(%d, %d, %v) answered %v, %d", serial, field, x, was, e)
		}
	}
}

// noVal: is there no such number, read or written?
func (w *twin) noVal(t *testing.T, serial uint64, field int) {
	t.Helper()
	if v, e := w.h.Val(serial, field); v != 0 || e != api.ErrBadHandle {
		t.Fatalf("8.2: Val(%d, %d) answered %d, %d", serial, field, v, e)
	}
	for _, v := range someVals {
		if e := w.h.SetVal(serial, field, v); e != api.ErrBadHandle {
			t.Fatalf("8.2: SetVal(%d, %d, %d) answered %d", serial, field, v, e)
		}
	}
}

// mixed answers a twin with objects that have all, some and no fields.
func mixed(t *testing.T) *twin {
	t.Helper()
	return twinWith(t, [2]int{7, 7}, [2]int{1, 0}, [2]int{0, 1}, [2]int{0, 0}, [2]int{3, 5}, [2]int{7, 0}, [2]int{0, 7}, [2]int{2, 1})
}

func TestEachFieldIsReadAsItWasWritten(t *testing.T) {
	w := mixed(t)
	for _, o := range w.objects {
		for i := range o.Refs {
			for _, x := range rightIDs {
				w.setRef(t, o.Serial, i, x)
				w.holds(t)
			}
		}
		for i := range o.Vals {
			for _, v := range someVals {
				w.setVal(t, o.Serial, i, v)
				w.holds(t)
			}
		}
	}
}

func TestFieldsThatAnObjectHasNot(t *testing.T) {
	w := mixed(t)
	for _, o := range w.objects {
		for _, field := range outside(len(o.Refs)) {
			w.noRef(t, o.Serial, field)
		}
		for _, field := range outside(len(o.Vals)) {
			w.noVal(t, o.Serial, field)
		}
		w.holds(t)
	}
}

// References and numbers are counted each by itself.
func TestAReferenceIsNoNumber(t *testing.T) {
	w := twinWith(t, [2]int{2, 0}, [2]int{0, 2}, [2]int{1, 3})
	w.noVal(t, 6, 0)
	w.noVal(t, 6, 1)
	w.noRef(t, 7, 0)
	w.noRef(t, 7, 1)
	w.noRef(t, 8, 1)
	w.noVal(t, 8, 3)
	w.setRef(t, 8, 0, api.ID{Node: 9, Serial: 9})
	w.setVal(t, 8, 0, 5)
	w.holds(t)
}

func TestFieldsOfObjectsThatAreNot(t *testing.T) {
	w := mixed(t)
	w.free(t, 6, 9, 10)
	empty := twinOf(t, 1, 16, 1, 0)
	for _, w := range []*twin{w, empty} {
		for _, s := range w.missing() {
			for _, field := range []int{math.MinInt, -1, 0, 1, 6, 7, math.MaxInt} {
				w.noRef(t, s, field)
				w.noVal(t, s, field)
			}
		}
		w.holds(t)
	}
}

func TestSetRefOfWhatIsNotRight(t *testing.T) {
	w := mixed(t)
	w.free(t, 10)
	serials := append(w.serials(), w.missing()...)
	for _, x := range wrongIDs {
		for _, s := range serials {
			for _, field := range []int{math.MinInt, -1, 0, 1, 6, 7, math.MaxInt} {
				if was, e := w.h.SetRef(s, field, x); was != none || e != api.ErrArg {
					t.Fatalf("8.2: SetRef(%d, %d, %v) answered %v, %d", s, field, x, was, e)
				}
			}
		}
		w.holds(t)
	}
}

// Plain numbers, told without a twin: each SetRef answers what was there.
func TestSetRefTellsWhatWasThere(t *testing.T) {
	h := fresh(t, 1, 16, 1, 0)
	h.Make(2, 0)
	a, b := api.ID{Node: 2, Serial: 9}, api.ID{Node: maxNodes, Serial: maxSerial}
	steps := []struct {
		field  int
		x, was api.ID
	}{{0, a, none}, {0, b, a}, {1, a, none}, {0, b, b}, {0, none, b}, {0, none, none}, {1, none, a}, {0, a, none}}
	for i, s := range steps {
		if was, e := h.SetRef(1, s.field, s.x); was != s.was || e != api.OK {
			t.Errorf("8.2: step %d answered %v, %d, not %v", i, was, e, s.was)
		}
		if x, e := h.Ref(1, s.field); x != s.x || e != api.OK {
			t.Errorf("8.2: behind step %d, Ref answered %v, %d", i, x, e)
		}
	}
}

// A reference may be to the object itself, to one that isn't, and to others'.
func TestSetRefLooksAtNoObject(t *testing.T) {
	w := twinWith(t, [2]int{4, 0}, [2]int{1, 0})
	w.setRef(t, 6, 0, api.ID{Node: 3, Serial: 6})
	w.setRef(t, 6, 1, api.ID{Node: 3, Serial: 7})
	w.setRef(t, 6, 2, api.ID{Node: 3, Serial: 1000})
	w.setRef(t, 6, 3, api.ID{Node: 4, Serial: 6})
	w.holds(t)
	w.free(t, 7)
	w.holds(t)
}

func TestSetInOfEveryDistance(t *testing.T) {
	w := twinWith(t, [2]int{0, 0}, [2]int{1, 1})
	for dist := range maxDist + 1 {
		w.setIn(t, 6, dist)
		w.holds(t)
		if o, _ := w.h.Object(6); o.In != dist {
			t.Errorf("8.2: In is %d, not %d", o.In, dist)
		}
	}
	w.setIn(t, 6, 0)
	w.holds(t)
}

func TestSetInOfWhatIsNoDistance(t *testing.T) {
	w := mixed(t)
	w.free(t, 8)
	for _, dist := range wrongDists {
		for _, s := range append(w.serials(), w.missing()...) {
			if e := w.h.SetIn(s, dist); e != api.ErrArg {
				t.Fatalf("8.2: SetIn(%d, %d) answered %d", s, dist, e)
			}
		}
		w.holds(t)
	}
}

func TestSetInOfObjectsThatAreNot(t *testing.T) {
	w := mixed(t)
	w.free(t, 6, 13)
	for _, s := range w.missing() {
		for _, dist := range []int{0, 1, maxDist} {
			if e := w.h.SetIn(s, dist); e != api.ErrBadHandle {
				t.Fatalf("8.2: SetIn(%d, %d) answered %d", s, dist, e)
			}
		}
	}
	w.holds(t)
}

// What is done with one object changes no other one, nor what another field
// of it is.
func TestEachObjectByItself(t *testing.T) {
	h := fresh(t, 1, 64, 4, 0)
	for range 4 {
		h.Make(2, 2)
	}
	as := told(h)
	h.SetRef(2, 1, api.ID{Node: 5, Serial: 5})
	h.SetVal(2, 0, 8)
	h.SetIn(2, 9)
	o, _ := h.Object(2)
	if o.Refs[0] != none || o.Refs[1] != (api.ID{Node: 5, Serial: 5}) || o.Vals[0] != 8 || o.Vals[1] != 0 || o.In != 9 {
		t.Errorf("8.2: the object is %+v", o)
	}
	h.SetRef(2, 1, none)
	h.SetVal(2, 0, 0)
	h.SetIn(2, 0)
	if now := told(h); now != as {
		t.Errorf("8.4: the heap tells %s, not %s", now, as)
	}
}
