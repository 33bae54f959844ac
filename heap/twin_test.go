package heap_test

import (
	"fmt"
	"math"
	"slices"
	"testing"

	"mooring/api"
	"mooring/arena"
	"mooring/heap"
)

// The document's numbers a second time, so that a wrong one is met.
const (
	maxNodes   = 64
	maxObjects = 64
	maxFields  = 7
	maxCells   = 4096
	maxDist    = 40
	maxSerial  = 1<<56 - 1
)

var (
	none = api.ID{}

	// wrongCounts are no counts of fields.
	wrongCounts = []int{math.MinInt, math.MinInt + 1, -1 << 32, -8, -2, -1, maxFields + 1, maxFields + 2, 15, 16, 1 << 8, 1 << 16, 1 << 32, 1<<32 + 1, math.MaxInt - 1, math.MaxInt}

	// wrongDists are no distances.
	wrongDists = []int{math.MinInt, math.MinInt + 1, -1 << 32, -40, -2, -1, maxDist + 1, maxDist + 2, 1 << 8, 1 << 16, 1 << 32, 1<<32 + 1, math.MaxInt - 1, math.MaxInt}

	// wrongIDs are not right: by their node, by their serial, by both.
	wrongIDs = []api.ID{
		{Node: 0, Serial: 1}, {Node: 0, Serial: maxSerial}, {Node: 0, Serial: math.MaxUint64},
		{Node: 1, Serial: 0}, {Node: maxNodes, Serial: 0}, {Node: -1, Serial: 0}, {Node: maxNodes + 1, Serial: 0},
		{Node: -1, Serial: 1}, {Node: maxNodes + 1, Serial: 1}, {Node: math.MinInt, Serial: 1}, {Node: math.MaxInt, Serial: 1},
		{Node: 1 << 8, Serial: 1}, {Node: 1<<8 + 1, Serial: 1}, {Node: 1 << 32, Serial: 1}, {Node: 1<<32 + 1, Serial: 1},
		{Node: 1, Serial: maxSerial + 1}, {Node: maxNodes, Serial: maxSerial + 1}, {Node: 2, Serial: 1 << 63}, {Node: 2, Serial: math.MaxUint64},
		{Node: -1, Serial: math.MaxUint64}, {Node: maxNodes + 1, Serial: maxSerial + 1},
	}

	// rightIDs are right, none among them.
	rightIDs = []api.ID{
		{Node: 1, Serial: 1}, {Node: 1, Serial: maxSerial}, {Node: maxNodes, Serial: 1}, {Node: maxNodes, Serial: maxSerial},
		none, {Node: 2, Serial: 9}, {Node: 33, Serial: 1 << 32}, {Node: 2, Serial: maxSerial - 1},
	}

	// someVals are numbers, of which each may be.
	someVals = []uint64{1, math.MaxUint64, 0, 1 << 63, maxSerial + 1, 1 << 32, 7}
)

// fresh answers a heap without objects.
func fresh(t *testing.T, node, cells, objects int, last uint64) *heap.Heap {
	t.Helper()
	h, e := heap.New(node, cells, objects, last)
	if h == nil || e != api.OK {
		t.Fatalf("8.1: New(%d, %d, %d, %d) answered %v, %d", node, cells, objects, last, h, e)
	}
	return h
}

// twin is a heap, and beside it the same as it should be: its objects, rising,
// and an arena of its own for the cells.
type twin struct {
	h          *heap.Heap
	node, most int
	last       uint64
	cells      *arena.Arena
	objects    []api.Object
	freed      []uint64
}

// twinOf answers a twin of a heap without objects.
func twinOf(t *testing.T, node, cells, objects int, last uint64) *twin {
	t.Helper()
	a, e := arena.New(cells)
	if e != api.OK {
		t.Fatalf("the test itself: no arena of %d cells", cells)
	}
	return &twin{h: fresh(t, node, cells, objects, last), node: node, most: objects, last: last, cells: a}
}

// twinWith answers a twin with objects of so many references and numbers, in
// a heap that has room for all that may be.
func twinWith(t *testing.T, fields ...[2]int) *twin {
	t.Helper()
	w := twinOf(t, 3, maxCells, maxObjects, 5)
	for _, f := range fields {
		w.make(t, f[0], f[1])
	}
	w.fill(t)
	w.holds(t)
	return w
}

// fill gives each field of all objects a value of its own.
func (w *twin) fill(t *testing.T) {
	t.Helper()
	n := 0
	for _, o := range w.objects {
		for i := range o.Refs {
			w.setRef(t, o.Serial, i, rightIDs[n%len(rightIDs)])
			n++
		}
		for i := range o.Vals {
			w.setVal(t, o.Serial, i, someVals[n%len(someVals)]-uint64(n))
			n++
		}
		w.setIn(t, o.Serial, n%(maxDist+1))
	}
}

// find answers the place of an object among those that should be; -1: none.
func (w *twin) find(serial uint64) int {
	return slices.IndexFunc(w.objects, func(o api.Object) bool { return o.Serial == serial })
}

// what answers the object as it should be.
func (w *twin) what(serial uint64) (api.Object, bool) {
	if i := w.find(serial); i >= 0 {
		return w.objects[i], true
	}
	return api.Object{}, false
}

// wants answers the error of the next Make.
func (w *twin) wants(refs, vals int) api.Errno {
	if refs < 0 || refs > maxFields || vals < 0 || vals > maxFields {
		return api.ErrArg
	}
	if len(w.objects) == w.most {
		return api.ErrTableFull
	}
	if w.last == maxSerial {
		return api.ErrExhausted
	}
	if w.cells.Room(1+refs+vals) == 0 {
		return api.ErrOOM
	}
	return api.OK
}

// make makes an object, and holds the answer against what is asked.
func (w *twin) make(t *testing.T, refs, vals int) uint64 {
	t.Helper()
	want := w.wants(refs, vals)
	s, e := w.h.Make(refs, vals)
	if want != api.OK {
		if s != 0 || e != want {
			t.Fatalf("8.1: Make(%d, %d) answered %d, %d, not 0, %d", refs, vals, s, e, want)
		}
		return 0
	}
	if s != w.last+1 || e != api.OK {
		t.Fatalf("8.1: behind %d, Make(%d, %d) answered %d, %d", w.last, refs, vals, s, e)
	}
	cell, _ := w.cells.Alloc(1 + refs + vals)
	w.last++
	w.objects = append(w.objects, api.Object{Serial: w.last, Cell: cell, Refs: make([]api.ID, refs), Vals: make([]uint64, vals)})
	return s
}

// refused is a Make that must answer an error, and change nothing.
func (w *twin) refused(t *testing.T, refs, vals int, want api.Errno) {
	t.Helper()
	if s, e := w.h.Make(refs, vals); s != 0 || e != want {
		t.Fatalf("8.1: Make(%d, %d) answered %d, %d, not 0, %d", refs, vals, s, e, want)
	}
	w.holds(t)
}

// setRef sets a reference that is there to an ID that is right.
func (w *twin) setRef(t *testing.T, serial uint64, field int, x api.ID) {
	t.Helper()
	o, _ := w.what(serial)
	was, e := w.h.SetRef(serial, field, x)
	if was != o.Refs[field] || e != api.OK {
		t.Fatalf("8.2: SetRef(%d, %d, %v) answered %v, %d, not %v", serial, field, x, was, e, o.Refs[field])
	}
	o.Refs[field] = x
}

// setVal sets a number that is there.
func (w *twin) setVal(t *testing.T, serial uint64, field int, v uint64) {
	t.Helper()
	o, _ := w.what(serial)
	if e := w.h.SetVal(serial, field, v); e != api.OK {
		t.Fatalf("8.2: SetVal(%d, %d, %d) answered %d", serial, field, v, e)
	}
	o.Vals[field] = v
}

// setIn sets the distance of an object that is there.
func (w *twin) setIn(t *testing.T, serial uint64, dist int) {
	t.Helper()
	if e := w.h.SetIn(serial, dist); e != api.OK {
		t.Fatalf("8.2: SetIn(%d, %d) answered %d", serial, dist, e)
	}
	w.objects[w.find(serial)].In = dist
}

// free frees objects that are there.
func (w *twin) free(t *testing.T, serials ...uint64) {
	t.Helper()
	for _, s := range serials {
		i := w.find(s)
		if e := w.h.Free(s); e != api.OK {
			t.Fatalf("8.3: Free(%d) answered %d", s, e)
		}
		w.cells.Free(w.objects[i].Cell)
		w.objects = slices.Delete(w.objects, i, i+1)
		w.freed = append(w.freed, s)
	}
}

// serials answers those of the objects that should be, rising.
func (w *twin) serials() []uint64 {
	var l []uint64
	for _, o := range w.objects {
		l = append(l, o.Serial)
	}
	return l
}

// missing answers serials that are no object's: freed ones, such as were never
// given, and the ends of the type.
func (w *twin) missing() []uint64 {
	l := []uint64{0, w.last + 1, w.last + 2, w.last + 1<<32, maxSerial, maxSerial + 1, 1 << 63, math.MaxUint64 - 1, math.MaxUint64}
	for _, o := range w.objects {
		l = append(l, o.Serial+1<<32, o.Serial+1<<56, ^o.Serial)
	}
	l = append(l, w.freed...)
	return slices.DeleteFunc(l, func(s uint64) bool { return w.find(s) >= 0 })
}

// same tells whether two objects are the same, nil lists being empty ones.
func same(a, b api.Object) bool {
	return a.Serial == b.Serial && a.Cell == b.Cell && a.In == b.In && slices.Equal(a.Refs, b.Refs) && slices.Equal(a.Vals, b.Vals)
}

// holds holds all that the heap tells against what is asked.
func (w *twin) holds(t *testing.T) {
	t.Helper()
	if w.h.Node() != w.node || w.h.Len() != len(w.objects) || w.h.Last() != w.last || w.h.Used() != w.cells.Used() {
		t.Fatalf("8.3: Node is %d, Len %d, Last %d, Used %d, not %d, %d, %d, %d", w.h.Node(), w.h.Len(), w.h.Last(), w.h.Used(), w.node, len(w.objects), w.last, w.cells.Used())
	}
	for _, o := range w.objects {
		if got, ok := w.h.Object(o.Serial); !ok || !same(got, o) {
			t.Fatalf("8.3: Object(%d) is %+v, %v, not %+v", o.Serial, got, ok, o)
		}
		w.fields(t, o)
	}
	for _, s := range w.missing() {
		if got, ok := w.h.Object(s); ok || !same(got, api.Object{}) {
			t.Fatalf("8.3: Object(%d) is %+v, %v", s, got, ok)
		}
	}
	w.nexts(t)
}

// fields holds Ref and Val of each field against what is asked.
func (w *twin) fields(t *testing.T, o api.Object) {
	t.Helper()
	for i, want := range o.Refs {
		if x, e := w.h.Ref(o.Serial, i); x != want || e != api.OK {
			t.Fatalf("8.2: Ref(%d, %d) answered %v, %d, not %v", o.Serial, i, x, e, want)
		}
	}
	for i, want := range o.Vals {
		if v, e := w.h.Val(o.Serial, i); v != want || e != api.OK {
			t.Fatalf("8.2: Val(%d, %d) answered %d, %d, not %d", o.Serial, i, v, e, want)
		}
	}
}

// next answers the least serial above one that should be an object's.
func (w *twin) next(serial uint64) (uint64, bool) {
	for _, o := range w.objects {
		if o.Serial > serial {
			return o.Serial, true
		}
	}
	return 0, false
}

// nexts holds Next against what is asked: of each serial that is or isn't an
// object's, and of those beside it.
func (w *twin) nexts(t *testing.T) {
	t.Helper()
	from := w.missing()
	for _, s := range slices.Concat(w.serials(), w.freed) {
		from = append(from, s-1, s, s+1)
	}
	for _, s := range from {
		want, wantOK := w.next(s)
		if got, ok := w.h.Next(s); got != want || ok != wantOK {
			t.Fatalf("8.3: with %v, Next(%d) is %d, %v, not %d, %v", w.serials(), s, got, ok, want, wantOK)
		}
	}
}

// walk answers all serials by Next, from serial on.
func walk(h *heap.Heap, serial uint64) []uint64 {
	var l []uint64
	for s, ok := h.Next(serial); ok; s, ok = h.Next(s) {
		l = append(l, s)
	}
	return l
}

// told answers all that a heap tells, as a text.
func told(h *heap.Heap) string {
	s := fmt.Sprint(h.Node(), h.Len(), h.Last(), h.Used())
	for _, serial := range walk(h, 0) {
		o, ok := h.Object(serial)
		s += fmt.Sprint(" ", o, ok)
	}
	return s
}
