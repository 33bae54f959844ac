package heap_test

import (
	"slices"
	"testing"

	"mooring/api"
)

func TestMakeOfEveryCountOfFields(t *testing.T) {
	for refs := -3; refs <= maxFields+3; refs++ {
		for vals := -3; vals <= maxFields+3; vals++ {
			w := twinOf(t, 1, 32, 2, 0)
			want := api.ErrArg
			if refs >= 0 && refs <= maxFields && vals >= 0 && vals <= maxFields {
				want = api.OK
			}
			if w.wants(refs, vals) != want {
				t.Fatalf("the test itself: of Make(%d, %d), %d is wanted", refs, vals, w.wants(refs, vals))
			}
			w.make(t, refs, vals)
			w.holds(t)
		}
	}
}

func TestMakeOfWrongCounts(t *testing.T) {
	for _, w := range []*twin{twinOf(t, 1, 16, 1, 0), twinWith(t, [2]int{7, 7}, [2]int{0, 0}), twinOf(t, 1, 16, 1, maxSerial)} {
		for _, n := range wrongCounts {
			for _, other := range append([]int{0, 3, maxFields, -n}, wrongCounts...) {
				w.refused(t, n, other, api.ErrArg)
				w.refused(t, other, n, api.ErrArg)
			}
		}
	}
}

// A new object: its references are none, its numbers 0, its In 0.
func TestWhatIsMadeIsEmpty(t *testing.T) {
	h := fresh(t, 1, 64, 4, 10)
	for round := range 3 {
		s, e := h.Make(7, 7)
		if s != 11+uint64(round) || e != api.OK {
			t.Fatalf("8.1: Make answered %d, %d", s, e)
		}
		o, ok := h.Object(s)
		if !ok || o.Serial != s || o.Cell != 0 || o.In != 0 || !slices.Equal(o.Refs, make([]api.ID, 7)) || !slices.Equal(o.Vals, make([]uint64, 7)) {
			t.Errorf("8.1: what was made is %+v", o)
		}
		for i := range 7 {
			h.SetRef(s, i, api.ID{Node: 2, Serial: 3})
			h.SetVal(s, i, 9)
		}
		h.SetIn(s, 4)
		h.Free(s)
	}
}

// An object takes a cell for itself, and one for each field.
func TestMakeTakesItsCells(t *testing.T) {
	class := []int{1, 2, 4, 4, 8, 8, 8, 8, 16, 16, 16, 16, 16, 16, 16}
	for refs := range maxFields + 1 {
		for vals := range maxFields + 1 {
			h := fresh(t, 1, 16, maxObjects, 0)
			size := class[refs+vals]
			for cell := 0; cell < 16; cell += size {
				s, e := h.Make(refs, vals)
				if o, _ := h.Object(s); e != api.OK || o.Cell != cell || h.Used() != cell+size {
					t.Errorf("8.1: Make(%d, %d) answered %d: %+v, Used is %d", refs, vals, e, o, h.Used())
				}
			}
			if s, e := h.Make(refs, vals); s != 0 || e != api.ErrOOM {
				t.Errorf("8.1: Make(%d, %d) into full cells answered %d, %d", refs, vals, s, e)
			}
		}
	}
}

func TestMakeWhereTheArenaHasNoPlace(t *testing.T) {
	w := twinOf(t, 1, 32, 8, 100)
	w.make(t, 3, 1)
	w.make(t, 0, 0)
	w.holds(t)
	w.refused(t, 7, 7, api.ErrOOM)
	w.refused(t, 1, 0, api.ErrOOM)
	w.refused(t, 0, 2, api.ErrOOM)
	if s := w.make(t, 4, 0); s != 103 {
		t.Errorf("8.1: behind what was refused, Make answered %d", s)
	}
	w.refused(t, 2, 2, api.ErrOOM)
	w.make(t, 0, 0)
	w.free(t, 101)
	w.make(t, 2, 2)
	w.refused(t, 2, 2, api.ErrOOM)
}

func TestMakeUpToAsManyObjects(t *testing.T) {
	for _, most := range []int{1, 2, 3, 16, maxObjects - 1, maxObjects} {
		w := twinOf(t, 1, maxCells, most, 0)
		for n := range most {
			if w.h.Len() != n {
				t.Fatalf("8.3: Len is %d, not %d", w.h.Len(), n)
			}
			w.make(t, n%8, n%5)
		}
		w.refused(t, 0, 0, api.ErrTableFull)
		w.free(t, uint64(most))
		if s := w.make(t, 1, 1); s != uint64(most)+1 {
			t.Errorf("8.1: with one object less than may be, Make answered %d", s)
		}
		w.refused(t, 0, 0, api.ErrTableFull)
		w.free(t, w.serials()...)
		w.holds(t)
		w.make(t, 7, 7)
		w.holds(t)
	}
}

// full has as many objects as it may, its last serial, and no cell left.
func full(t *testing.T, objects int, last uint64) *twin {
	t.Helper()
	w := twinOf(t, 1, 16, objects, last)
	w.make(t, 7, 7)
	w.holds(t)
	return w
}

func TestTheFirstOfSeveralErrors(t *testing.T) {
	all := full(t, 1, maxSerial-1)
	all.refused(t, 8, 0, api.ErrArg)
	all.refused(t, 0, -1, api.ErrArg)
	all.refused(t, 0, 0, api.ErrTableFull)

	end := full(t, 2, maxSerial-1)
	end.refused(t, 0, 8, api.ErrArg)
	end.refused(t, 0, 0, api.ErrExhausted)

	cells := full(t, 2, maxSerial-2)
	cells.refused(t, -1, 0, api.ErrArg)
	cells.refused(t, 0, 0, api.ErrOOM)

	table := full(t, 1, 0)
	table.refused(t, 7, 8, api.ErrArg)
	table.refused(t, 7, 7, api.ErrTableFull)

	empty := twinOf(t, 1, 16, 1, maxSerial)
	empty.refused(t, 8, 8, api.ErrArg)
	empty.refused(t, 7, 7, api.ErrExhausted)
}

func TestUpToTheLastSerial(t *testing.T) {
	for _, left := range []uint64{0, 1, 2, 5} {
		w := twinOf(t, 1, 512, 32, maxSerial-left)
		for n := uint64(1); n <= left; n++ {
			if s := w.make(t, 1, 1); s != maxSerial-left+n {
				t.Errorf("8.1: Make answered %d", s)
			}
			w.holds(t)
		}
		w.refused(t, 0, 0, api.ErrExhausted)
		w.refused(t, 7, 7, api.ErrExhausted)
		w.fill(t)
		w.holds(t)
		w.free(t, w.serials()...)
		w.refused(t, 0, 0, api.ErrExhausted)
	}
}

// The first serial is 1: 0 is none's.
func TestTheFirstSerial(t *testing.T) {
	if s, e := fresh(t, 1, 16, 1, 0).Make(0, 0); s != 1 || e != api.OK {
		t.Errorf("8.1: Make answered %d, %d", s, e)
	}
}

func TestASerialIsGivenOnce(t *testing.T) {
	h := fresh(t, 1, 64, 4, 7)
	given := map[uint64]int{}
	for n := range 200 {
		s, e := h.Make(n%3, n%2)
		if s != 8+uint64(n) || e != api.OK || given[s] != 0 {
			t.Fatalf("8.4: Make answered %d, %d", s, e)
		}
		given[s]++
		h.Make(8, 0)
		if n >= 3 {
			least, _ := h.Next(0)
			h.Free(least)
		}
		if n%17 == 0 {
			h.Free(s)
		}
		if h.Last() != s {
			t.Fatalf("8.3: Last is %d, not %d", h.Last(), s)
		}
	}
}
