package paint_test

import (
	"fmt"
	"math"
	"slices"
	"testing"

	"mooring/api"
	"mooring/heap"
	"mooring/paint"
)

// The document's numbers a second time, so that a wrong one is met.
const (
	maxDist    = 40
	maxGrey    = 64
	maxNodes   = 64
	maxObjects = 64
	maxFields  = 7
	maxCells   = 4096
	maxSerial  = 1<<56 - 1

	here = 3 // the node of the twins' heaps
)

// own answers an ID of the twins' node, far one of another.
func own(serial uint64) api.ID           { return api.ID{Node: here, Serial: serial} }
func far(node int, serial uint64) api.ID { return api.ID{Node: node, Serial: serial} }

var (
	none = api.ID{}

	// farIDs are remote, and right; rising.
	farIDs = []api.ID{
		far(1, 1), far(1, 2), far(1, maxSerial), far(2, 1), far(2, 7), far(2, maxSerial-1),
		far(4, 1), far(4, 3), far(4, 1<<32), far(4, 1<<32+3), far(33, 5), far(maxNodes-1, 2), far(maxNodes, 1), far(maxNodes, maxSerial),
	}

	// wrongIDs are not right: by their node, by their serial, by both.
	wrongIDs = []api.ID{
		far(0, 1), far(0, 2), far(0, maxSerial), far(0, maxSerial+1), far(0, 2<<56|7), far(0, here<<56|1), far(0, math.MaxUint64),
		far(1, 0), own(0), far(4, 0), far(maxNodes, 0), far(-1, 0), far(maxNodes+1, 0), far(math.MinInt, 0), far(math.MaxInt, 0),
		far(-1, 1), far(-here, 1), far(-1, maxSerial), far(math.MinInt, 1), far(math.MinInt+1, 1), far(math.MinInt+here, 1),
		far(maxNodes+1, 1), far(maxNodes+2, maxSerial), far(1<<8, 1), far(1<<8+here, 1), far(1<<32, 1), far(1<<32+here, 1), far(math.MaxInt, 1),
		far(1, maxSerial+1), far(1, maxSerial+2), far(2, 1<<56|7), own(1<<56 | 1), own(maxSerial + 1), own(maxSerial + 2), own(1 << 63), own(math.MaxUint64),
		far(maxNodes, maxSerial+1), far(-1, math.MaxUint64), far(maxNodes+1, maxSerial+1), far(math.MaxInt, math.MaxUint64), far(math.MinInt, math.MaxUint64),
	}

	// someRanks are ranks, such as are brought into 0 to MaxDist among them.
	someRanks = []int{
		math.MinInt, math.MinInt + 1, math.MinInt32, -1 << 32, -1<<32 + 5, -1 << 8, -maxDist, -2, -1, 0, 1, 2, 20, maxDist - 1, maxDist,
		maxDist + 1, maxDist + 2, 2 * maxDist, 1<<8 + 5, 1 << 16, 1 << 32, 1<<32 + 5, math.MaxInt32, math.MaxInt - 1, math.MaxInt,
	}
)

// within answers a rank as it is brought into 0 to MaxDist.
func within(rank int) int {
	if rank < 0 {
		return 0
	}
	if rank > maxDist {
		return maxDist
	}
	return rank
}

// heapOf answers a heap of the node here with an object for each list: its
// references are the list's. Serials count from 1 on.
func heapOf(t *testing.T, lists ...[]api.ID) *heap.Heap {
	t.Helper()
	h, e := heap.New(here, maxCells, maxObjects, 0)
	if e != api.OK {
		t.Fatalf("the test itself: no heap: %d", e)
	}
	for _, l := range lists {
		s, e := h.Make(len(l), 1)
		for i, x := range l {
			if _, e := h.SetRef(s, i, x); e != api.OK {
				t.Fatalf("the test itself: SetRef(%d, %d, %v) answered %d", s, i, x, e)
			}
		}
		if e != api.OK {
			t.Fatalf("the test itself: Make answered %d", e)
		}
	}
	return h
}

// fresh answers a paint of h that was never turned.
func fresh(t *testing.T, h *heap.Heap, most int) *paint.Paint {
	t.Helper()
	p, e := paint.New(h, most)
	if p == nil || e != api.OK {
		t.Fatalf("11.1: New(h, %d) answered %v, %d", most, p, e)
	}
	return p
}

// marked is how an object should be marked.
type marked struct {
	serial uint64
	rank   int
	grey   bool
}

// twin is a paint, and beside it what it should know.
type twin struct {
	p     *paint.Paint
	h     *heap.Heap
	most  int
	marks []marked
	stack []uint64 // the lowest first
	over  bool
	outs  []api.Out // rising
	turns uint64
}

// twinOf answers a twin of a paint of h that was never turned.
func twinOf(t *testing.T, h *heap.Heap, most int) *twin {
	t.Helper()
	return &twin{p: fresh(t, h, most), h: h, most: most}
}

// twinWith answers a twin with room enough, over a heap as heapOf makes it.
func twinWith(t *testing.T, lists ...[]api.ID) *twin {
	t.Helper()
	return twinOf(t, heapOf(t, lists...), maxGrey)
}

// has tells whether the heap has such an object.
func (w *twin) has(serial uint64) bool {
	_, ok := w.h.Object(serial)
	return ok
}

// find answers the place of a mark; -1: there is none.
func (w *twin) find(serial uint64) int {
	return slices.IndexFunc(w.marks, func(m marked) bool { return m.serial == serial })
}

// turn is a Turn.
func (w *twin) turn() {
	w.p.Turn()
	w.turns++
	w.marks, w.stack, w.over, w.outs = nil, nil, false, nil
}

// shade is a Shade.
func (w *twin) shade(x api.ID, rank int) {
	w.p.Shade(x, rank)
	w.shades(x, within(rank))
}

// shades does what a Shade asks for, beside the paint.
func (w *twin) shades(x api.ID, rank int) {
	switch {
	case x.Node < 1 || x.Node > maxNodes || x.Serial < 1 || x.Serial > maxSerial:
		return
	case x.Node != w.h.Node():
		w.meets(x, rank)
		return
	case !w.has(x.Serial):
		return
	}
	i := w.find(x.Serial)
	if i < 0 {
		w.marks = append(w.marks, marked{x.Serial, rank, true})
		w.pushes(x.Serial)
		return
	}
	m := &w.marks[i]
	if rank >= m.rank {
		return
	}
	m.rank = rank
	if !m.grey {
		m.grey = true
		w.pushes(x.Serial)
	}
}

// meets does what a Shade of a remote ID asks for, beside the paint.
func (w *twin) meets(x api.ID, rank int) {
	for i := range w.outs {
		if w.outs[i].ID == x {
			w.outs[i].Rank = min(w.outs[i].Rank, rank)
			return
		}
	}
	i := 0
	for i < len(w.outs) && less(w.outs[i].ID, x) {
		i++
	}
	w.outs = slices.Insert(w.outs, i, api.Out{ID: x, Rank: rank})
}

// less tells whether a is ahead of b in the order of IDs.
func less(a, b api.ID) bool { return a.Node < b.Node || a.Node == b.Node && a.Serial < b.Serial }

// pushes lays a serial on the stack that should be.
func (w *twin) pushes(serial uint64) {
	if len(w.stack) == w.most {
		w.over = true
		return
	}
	w.stack = append(w.stack, serial)
}

// blacken is a Blacken.
func (w *twin) blacken(serial uint64) {
	w.p.Blacken(serial)
	if w.has(serial) && w.find(serial) < 0 {
		w.marks = append(w.marks, marked{serial, 0, false})
	}
}

// scan is a Scan.
func (w *twin) scan(t *testing.T, serial uint64) bool {
	t.Helper()
	i := w.find(serial)
	o, ok := w.h.Object(serial)
	want := ok && i >= 0 && w.marks[i].grey
	if got := w.p.Scan(serial); got != want {
		t.Fatalf("11.3: Scan(%d) answered %v", serial, got)
	}
	if want {
		w.marks[i].grey = false
		for _, x := range o.Refs {
			w.shades(x, w.marks[i].rank)
		}
	}
	return want
}

// pop is a Pop.
func (w *twin) pop(t *testing.T) (uint64, bool) {
	t.Helper()
	var want uint64
	ok := len(w.stack) > 0
	if ok {
		want = w.stack[len(w.stack)-1]
		w.stack = w.stack[:len(w.stack)-1]
	}
	if got, gotOK := w.p.Pop(); got != want || gotOK != ok {
		t.Fatalf("11.3: Pop answered %d, %v, not %d, %v", got, gotOK, want, ok)
	}
	return want, ok
}

// rest is a Rest.
func (w *twin) rest() {
	w.p.Rest()
	w.over = false
}

// forget is a Forget.
func (w *twin) forget(serial uint64) {
	w.p.Forget(serial)
	if i := w.find(serial); i >= 0 {
		w.marks = slices.Delete(w.marks, i, i+1)
	}
}

// free takes an object out of the heap behind the paint's back.
func (w *twin) free(t *testing.T, serial uint64) {
	t.Helper()
	if e := w.h.Free(serial); e != api.OK {
		t.Fatalf("the test itself: Free(%d) answered %d", serial, e)
	}
}

// serials answers such as may be objects', and such as can't.
func (w *twin) serials() []uint64 {
	last := w.h.Last()
	l := []uint64{0, last + 1, last + 2, 1<<32 | 1, 1<<56 | 1, maxSerial, maxSerial + 1, math.MaxUint64}
	for s := uint64(1); s <= last; s++ {
		l = append(l, s)
	}
	return l
}

// holds holds all that the paint tells against what is asked, but for what is
// on the stack, which drains looks at.
func (w *twin) holds(t *testing.T) {
	t.Helper()
	if turns, n, over := w.p.Turns(), w.p.Waiting(), w.p.Over(); turns != w.turns || n != len(w.stack) || over != w.over {
		t.Fatalf("11: Turns is %d, Waiting %d, Over %v, not %d, %d, %v", turns, n, over, w.turns, len(w.stack), w.over)
	}
	for _, s := range w.serials() {
		w.isMarked(t, s)
	}
	if got := w.p.Outs(); !slices.Equal(got, w.outs) {
		t.Fatalf("11.4: Outs is %v, not %v", got, w.outs)
	}
	for _, x := range w.asked() {
		i := slices.IndexFunc(w.outs, func(o api.Out) bool { return o.ID == x })
		want := 0
		if i >= 0 {
			want = w.outs[i].Rank
		}
		if rank, ok := w.p.Met(x); rank != want || ok != (i >= 0) {
			t.Fatalf("11.4: Met(%v) is %d, %v, not %d, %v", x, rank, ok, want, i >= 0)
		}
	}
}

// isMarked holds Mark against what is asked.
func (w *twin) isMarked(t *testing.T, serial uint64) {
	t.Helper()
	var want marked
	i := w.find(serial)
	ok := i >= 0 && w.has(serial)
	if ok {
		want = w.marks[i]
	}
	if rank, grey, gotOK := w.p.Mark(serial); rank != want.rank || grey != want.grey || gotOK != ok {
		t.Fatalf("11.4: Mark(%d) is %d, %v, %v, not %d, %v, %v", serial, rank, grey, gotOK, want.rank, want.grey, ok)
	}
}

// asked answers IDs of all kinds, to be asked of Met.
func (w *twin) asked() []api.ID {
	l := slices.Concat([]api.ID{none, own(maxSerial), own(1 << 32)}, farIDs, wrongIDs)
	for s := uint64(1); s <= w.h.Last(); s++ {
		l = append(l, own(s))
	}
	for _, o := range w.outs {
		l = append(l, o.ID)
	}
	return l
}

// drains pops all that is on the stack, and one more.
func (w *twin) drains(t *testing.T) {
	t.Helper()
	for ok := true; ok; {
		_, ok = w.pop(t)
	}
	w.holds(t)
}

// is tells whether the paint tells that mark.
func (w *twin) is(serial uint64, rank int, grey bool) bool {
	r, g, ok := w.p.Mark(serial)
	return ok && r == rank && g == grey
}

// told answers all that a paint tells of a heap's objects, as a text.
func told(h *heap.Heap, p *paint.Paint) string {
	s := fmt.Sprint(p.Turns(), p.Waiting(), p.Over(), p.Outs())
	for serial := uint64(0); serial <= h.Last()+1; serial++ {
		rank, grey, ok := p.Mark(serial)
		s += fmt.Sprint(" ", rank, grey, ok)
	}
	return s
}
