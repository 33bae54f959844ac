package heap_test

import (
	"math"
	"slices"
	"testing"

	"mooring/api"
	"mooring/heap"
)

// tells holds Len, Last, Used and Node against plain numbers.
func tells(t *testing.T, h *heap.Heap, length int, last uint64, used int) {
	t.Helper()
	if h.Len() != length || h.Last() != last || h.Used() != used || h.Node() != 9 {
		t.Errorf("8.3: Len is %d, Last %d, Used %d, Node %d, not %d, %d, %d, 9", h.Len(), h.Last(), h.Used(), h.Node(), length, last, used)
	}
}

func TestWhatIsToldBehindEachMakeAndEachFree(t *testing.T) {
	h := fresh(t, 9, 48, 3, 20)
	tells(t, h, 0, 20, 0)
	h.Make(0, 0)
	tells(t, h, 1, 21, 1)
	h.Make(2, 3)
	tells(t, h, 2, 22, 9)
	h.Make(0, 8)
	tells(t, h, 2, 22, 9)
	h.Make(4, 4)
	tells(t, h, 3, 23, 25)
	h.Make(0, 0)
	tells(t, h, 3, 23, 25)
	h.Free(22)
	tells(t, h, 2, 23, 17)
	h.Free(22)
	tells(t, h, 2, 23, 17)
	h.Make(7, 7)
	tells(t, h, 3, 24, 33)
	h.Free(24)
	h.Free(21)
	tells(t, h, 1, 24, 16)
	h.Free(23)
	tells(t, h, 0, 24, 0)
	h.Make(1, 0)
	tells(t, h, 1, 25, 2)
}

// Plain numbers, told without a twin.
func TestObjectTellsAllOfIt(t *testing.T) {
	h := fresh(t, 9, 64, 8, 40)
	h.Make(7, 7)
	h.Make(1, 1)
	h.Make(1, 2)
	a, b := api.ID{Node: 2, Serial: 9}, api.ID{Node: 9, Serial: 41}
	h.SetRef(43, 0, a)
	h.SetVal(43, 0, 11)
	h.SetVal(43, 1, math.MaxUint64)
	h.SetIn(43, 40)
	h.SetRef(42, 0, b)
	wants := []api.Object{
		{Serial: 41, Cell: 0, Refs: make([]api.ID, 7), Vals: make([]uint64, 7)},
		{Serial: 42, Cell: 16, Refs: []api.ID{b}, Vals: []uint64{0}},
		{Serial: 43, Cell: 20, Refs: []api.ID{a}, Vals: []uint64{11, math.MaxUint64}, In: 40},
	}
	for _, want := range wants {
		if o, ok := h.Object(want.Serial); !ok || !same(o, want) {
			t.Errorf("8.3: Object(%d) is %+v, %v, not %+v", want.Serial, o, ok, want)
		}
	}
	for _, s := range []uint64{0, 1, 40, 44, maxSerial, math.MaxUint64} {
		if o, ok := h.Object(s); ok || !same(o, api.Object{}) {
			t.Errorf("8.3: Object(%d) is %+v, %v", s, o, ok)
		}
	}
}

// spoil writes over all of l, its spare room too.
func spoil[T any](l []T, with T) {
	whole := l[:cap(l)]
	for i := range whole {
		whole[i] = with
	}
}

// spoilObject writes over all that an object has.
func spoilObject(o *api.Object) {
	spoil(o.Refs, api.ID{Node: 60, Serial: 60})
	spoil(o.Vals, 60)
	spoil(append(o.Refs, api.ID{Node: 61, Serial: 61}), api.ID{Node: 62, Serial: 62})
	spoil(append(o.Vals, 61), 62)
	o.Serial, o.Cell, o.In = 3, 60, 33
}

func TestWhatObjectAnswersIsItsOwners(t *testing.T) {
	w := mixed(t)
	for _, s := range slices.Concat(w.serials(), w.missing()) {
		first, _ := w.h.Object(s)
		second, _ := w.h.Object(s)
		spoilObject(&first)
		w.holds(t)
		if want, _ := w.what(s); !same(second, want) {
			t.Errorf("R2: with another answer written over, Object's is %+v, not %+v", second, want)
		}
	}
	w.make(t, 3, 3)
	w.holds(t)
}

func TestAnObjectStaysAsItWasTold(t *testing.T) {
	w := mixed(t)
	var was, is []api.Object
	for _, s := range w.serials() {
		o, _ := w.h.Object(s)
		is = append(is, o)
		o.Refs, o.Vals = slices.Clone(o.Refs), slices.Clone(o.Vals)
		was = append(was, o)
	}
	for _, s := range w.serials() {
		o, _ := w.what(s)
		for i := range o.Refs {
			w.setRef(t, s, i, api.ID{Node: 44, Serial: 44})
		}
		for i := range o.Vals {
			w.setVal(t, s, i, 44)
		}
		w.setIn(t, s, 4)
	}
	w.free(t, w.serials()...)
	for range 20 {
		w.make(t, 7, 7)
	}
	w.fill(t)
	for i := range is {
		if !same(is[i], was[i]) {
			t.Errorf("R2: Object answered %+v, and this is now %+v", was[i], is[i])
		}
	}
}

func TestFreeOfObjectsThatAreNot(t *testing.T) {
	w := mixed(t)
	w.free(t, 7, 13, 10)
	for _, s := range w.missing() {
		for range 2 {
			if e := w.h.Free(s); e != api.ErrBadHandle {
				t.Fatalf("8.3: Free(%d) answered %d", s, e)
			}
		}
	}
	w.holds(t)
	empty := twinOf(t, 1, 16, 1, 0)
	for _, s := range empty.missing() {
		if e := empty.h.Free(s); e != api.ErrBadHandle {
			t.Fatalf("8.3: Free(%d) answered %d", s, e)
		}
	}
	empty.holds(t)
}

// Whichever goes, the others stay as they were.
func TestFreeTakesOneAway(t *testing.T) {
	for i := range mixed(t).objects {
		w := mixed(t)
		s := w.serials()[i]
		w.free(t, s)
		w.holds(t)
		w.noRef(t, s, 0)
		w.noVal(t, s, 0)
		if w.h.SetIn(s, 1) != api.ErrBadHandle || w.h.Free(s) != api.ErrBadHandle {
			t.Errorf("8.3: %d is not gone", s)
		}
		w.holds(t)
	}
}

// What was freed is had again, and by an object with a new serial.
func TestFreeFreesTheCells(t *testing.T) {
	h := fresh(t, 1, 32, 8, 0)
	h.Make(7, 7)
	h.Make(3, 4)
	h.Make(4, 3)
	if _, e := h.Make(0, 0); e != api.ErrOOM || h.Used() != 32 {
		t.Fatalf("8.1: Make into full cells answered %d, Used is %d", e, h.Used())
	}
	if e := h.Free(2); e != api.OK || h.Used() != 24 {
		t.Fatalf("8.3: Free(2) answered %d, Used is %d", e, h.Used())
	}
	if _, e := h.Make(0, 0); e != api.ErrOOM {
		t.Errorf("8.1: Make where a place of another class is free answered %d", e)
	}
	s, e := h.Make(6, 1)
	if o, _ := h.Object(s); s != 4 || e != api.OK || o.Cell != 16 {
		t.Errorf("8.4: what was freed is had again by %+v, %d", o, e)
	}
	h.Free(4)
	h.Free(3)
	s, e = h.Make(0, 0)
	if o, _ := h.Object(s); s != 5 || e != api.OK || o.Cell != 16 || h.Used() != 17 {
		t.Errorf("8.4: what was freed is had again by %+v, %d", o, e)
	}
}

func TestNextGoesThroughAll(t *testing.T) {
	h := fresh(t, 1, maxCells, maxObjects, 100)
	if l := walk(h, 0); len(l) != 0 {
		t.Errorf("8.3: of no objects, Next goes through %v", l)
	}
	var want []uint64
	for s := uint64(101); s <= 164; s++ {
		h.Make(0, 1)
		want = append(want, s)
	}
	for _, from := range []uint64{0, 1, 99, 100} {
		if l := walk(h, from); !slices.Equal(l, want) {
			t.Errorf("8.3: from %d on, Next goes through %v", from, l)
		}
	}
	for i, s := range want {
		if l := walk(h, s); !slices.Equal(l, want[i+1:]) {
			t.Errorf("8.3: from %d on, Next goes through %v", s, l)
		}
	}
	for _, from := range []uint64{164, 165, 1 << 32, maxSerial, maxSerial + 1, math.MaxUint64} {
		if s, ok := h.Next(from); s != 0 || ok {
			t.Errorf("8.3: Next(%d) is %d, %v", from, s, ok)
		}
	}
}

// Of eight objects each may be freed or not.
func TestNextWhateverWasFreed(t *testing.T) {
	for gone := range 1 << 8 {
		h := fresh(t, 1, 16, 8, 0)
		for range 8 {
			h.Make(0, 0)
		}
		var left []uint64
		for s := uint64(1); s <= 8; s++ {
			if gone>>(s-1)&1 == 0 {
				left = append(left, s)
			} else {
				h.Free(s)
			}
		}
		for from := range uint64(10) {
			want := slices.DeleteFunc(slices.Clone(left), func(s uint64) bool { return s <= from })
			if l := walk(h, from); !slices.Equal(l, want) {
				t.Fatalf("8.3: of %v, from %d on, Next goes through %v", left, from, l)
			}
		}
	}
}

// A walk may free what it stands on.
func TestNextBehindOneThatWasFreed(t *testing.T) {
	w := mixed(t)
	var met []uint64
	all := w.serials()
	for s, ok := w.h.Next(0); ok; s, ok = w.h.Next(s) {
		met = append(met, s)
		w.free(t, s)
		w.holds(t)
	}
	if !slices.Equal(met, all) || w.h.Len() != 0 {
		t.Errorf("8.3: Next goes through %v, not %v", met, all)
	}
}

func TestAskingChangesNothing(t *testing.T) {
	w := mixed(t)
	w.free(t, 9)
	before := told(w.h)
	for _, s := range append(w.serials(), w.missing()...) {
		w.h.Object(s)
		w.h.Next(s)
		for _, field := range outside(3) {
			w.h.Ref(s, field)
			w.h.Val(s, field)
		}
	}
	if now := told(w.h); now != before {
		t.Errorf("8.3: asked, a heap tells %s, not %s", now, before)
	}
	w.holds(t)
	w.make(t, 1, 2)
	w.holds(t)
}
