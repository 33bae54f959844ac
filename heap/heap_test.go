package heap_test

import (
	"math"
	"testing"

	"mooring/api"
	"mooring/arena"
	"mooring/heap"
)

func TestTheChaptersExamples(t *testing.T) {
	h := fresh(t, 1, 16, 2, 5)
	makes := []struct {
		refs, vals int
		serial     uint64
		e          api.Errno
	}{{1, 1, 6, api.OK}, {8, 0, 0, api.ErrArg}, {0, 0, 0, api.ErrOOM}}
	for _, m := range makes {
		if s, e := h.Make(m.refs, m.vals); s != m.serial || e != m.e {
			t.Errorf("8.1: Make(%d, %d) answered %d, %d", m.refs, m.vals, s, e)
		}
	}
	x := api.ID{Node: 2, Serial: 9}
	if got, e := h.Ref(6, 0); got != none || e != api.OK {
		t.Errorf("8.2: Ref(6, 0) answered %v, %d", got, e)
	}
	if got, e := h.Ref(6, 1); got != none || e != api.ErrBadHandle {
		t.Errorf("8.2: Ref(6, 1) answered %v, %d", got, e)
	}
	if got, e := h.SetRef(6, 0, x); got != none || e != api.OK {
		t.Errorf("8.2: SetRef answered %v, %d", got, e)
	}
	if got, e := h.Ref(6, 0); got != x || e != api.OK {
		t.Errorf("8.2: Ref(6, 0) answered %v, %d", got, e)
	}
	if s, e := fresh(t, 1, 16, 1, api.MaxSerial).Make(0, 0); s != 0 || e != api.ErrExhausted {
		t.Errorf("8.1: Make behind the last serial answered %d, %d", s, e)
	}
}

// The errors and the limits are numbers that the document names.
func TestTheNumbers(t *testing.T) {
	if api.ErrArg != 1 || api.ErrOOM != 2 || api.ErrBadHandle != 5 || api.ErrTableFull != 6 || api.ErrExhausted != 7 {
		t.Error("8: the errors are other numbers")
	}
	if api.MaxNodes != maxNodes || api.MaxObjects != maxObjects || api.MaxFields != maxFields || api.MaxCells != maxCells || api.MaxDist != maxDist || api.MaxSerial != maxSerial {
		t.Error("8: the limits are other numbers")
	}
}

// newRefused is a New that must answer ErrArg.
func newRefused(t *testing.T, node, cells, objects int, last uint64) {
	t.Helper()
	if h, e := heap.New(node, cells, objects, last); h != nil || e != api.ErrArg {
		t.Errorf("8.1: New(%d, %d, %d, %d) answered %v, %d", node, cells, objects, last, h, e)
	}
}

func TestNewOfEveryNode(t *testing.T) {
	for node := -200; node <= 1000; node++ {
		if node >= 1 && node <= maxNodes {
			twinOf(t, node, 16, 1, 0).holds(t)
			continue
		}
		newRefused(t, node, 16, 1, 0)
	}
	for _, node := range []int{math.MinInt, math.MinInt + 1, -1 << 32, 1<<16 + 1, 1 << 32, 1<<32 + 1, math.MaxInt - 1, math.MaxInt} {
		newRefused(t, node, 16, 1, 0)
	}
}

func TestNewOfEveryCountOfObjects(t *testing.T) {
	for objects := -200; objects <= 1000; objects++ {
		if objects >= 1 && objects <= maxObjects {
			twinOf(t, 1, 16, objects, 0).holds(t)
			continue
		}
		newRefused(t, 1, 16, objects, 0)
	}
	for _, objects := range []int{math.MinInt, math.MinInt + 1, -1 << 32, 1<<16 + 1, 1 << 32, 1<<32 + 1, math.MaxInt - 1, math.MaxInt} {
		newRefused(t, 1, 16, objects, 0)
	}
}

func TestNewOfEveryLast(t *testing.T) {
	for _, last := range []uint64{0, 1, 2, 1 << 32, 1<<56 - 3, maxSerial - 1, maxSerial} {
		twinOf(t, 1, 16, 1, last).holds(t)
	}
	for _, last := range []uint64{maxSerial + 1, maxSerial + 2, 1 << 57, 1 << 63, math.MaxUint64 - 1, math.MaxUint64} {
		newRefused(t, 1, 16, 1, last)
	}
}

// Just what arena.New takes.
func TestNewOfEveryCountOfCells(t *testing.T) {
	counts := []int{math.MinInt, math.MinInt + 16, -1 << 32, 1 << 32, 1<<32 + 16, math.MaxInt - 15, math.MaxInt}
	for cells := -100; cells <= 2*maxCells; cells++ {
		counts = append(counts, cells)
	}
	took := 0
	for _, cells := range counts {
		if _, e := arena.New(cells); e != api.OK {
			newRefused(t, 1, cells, 1, 0)
			continue
		}
		fresh(t, 1, cells, 1, 0)
		took++
	}
	if took != maxCells/16 {
		t.Errorf("8.1: %d counts of cells were taken, not %d", took, maxCells/16)
	}
}

// As many cells as were asked for can be had.
func TestNewHasItsCells(t *testing.T) {
	for _, cells := range []int{16, 32, 48, 512, 1008, 1024} {
		h := fresh(t, 1, cells, maxObjects, 0)
		for n := 1; n <= cells/16; n++ {
			if _, e := h.Make(7, 7); e != api.OK || h.Used() != 16*n {
				t.Fatalf("8.1: of %d cells, Make answered %d, Used is %d", cells, e, h.Used())
			}
		}
		want := api.ErrOOM
		if cells/16 == maxObjects {
			want = api.ErrTableFull
		}
		if _, e := h.Make(0, 0); e != want {
			t.Errorf("8.1: of %d cells, one more Make answered %d", cells, e)
		}
	}
}

func TestNewWithSeveralWrong(t *testing.T) {
	newRefused(t, 0, 15, 0, maxSerial+1)
	newRefused(t, 0, 16, 0, 0)
	newRefused(t, maxNodes+1, 17, 1, 0)
	newRefused(t, 1, 4112, maxObjects+1, 0)
	newRefused(t, 1, 0, 1, math.MaxUint64)
	newRefused(t, math.MinInt, math.MinInt, math.MinInt, math.MaxUint64)
	newRefused(t, math.MaxInt, math.MaxInt, math.MaxInt, math.MaxUint64)
}

func TestTheGreatestHeap(t *testing.T) {
	w := twinOf(t, maxNodes, maxCells, maxObjects, maxSerial-maxObjects)
	for range maxObjects {
		w.make(t, 7, 7)
	}
	w.fill(t)
	w.holds(t)
	if w.h.Last() != maxSerial || w.h.Len() != maxObjects || w.h.Used() != 16*maxObjects {
		t.Errorf("8.3: Last is %d, Len %d, Used %d", w.h.Last(), w.h.Len(), w.h.Used())
	}
	w.refused(t, 0, 0, api.ErrTableFull)
	w.free(t, w.serials()[40])
	w.refused(t, 0, 0, api.ErrExhausted)
}
