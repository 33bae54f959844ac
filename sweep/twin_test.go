package sweep_test

import (
	"fmt"
	"slices"
	"strings"
	"testing"

	"mooring/api"
	"mooring/heap"
	"mooring/paint"
	"mooring/sweep"
)

// The document's numbers a second time, so that a wrong one is met.
const (
	maxDist    = 40
	maxGrey    = 64
	maxNodes   = 64
	maxObjects = 64
	maxFields  = 7
	maxCells   = 4096
	maxSerial  = 1<<56 - 1

	here = 3 // the node of the tests' heaps
)

// own answers an ID of the tests' node, far one of another.
func own(serial uint64) api.ID           { return api.ID{Node: here, Serial: serial} }
func far(node int, serial uint64) api.ID { return api.ID{Node: node, Serial: serial} }

var none = api.ID{}

// thing is an object that is to be made.
type thing struct {
	marked bool
	rank   int
	grey   bool
	in     int
	refs   []api.ID
}

// bare answers an object that is not marked, dark one that is marked and not
// grey, light one that is grey.
func bare(refs ...api.ID) thing           { return thing{refs: refs} }
func dark(rank int, refs ...api.ID) thing { return thing{marked: true, rank: rank, refs: refs} }
func light(rank int, refs ...api.ID) thing {
	return thing{marked: true, rank: rank, grey: true, refs: refs}
}

// held answers the object with such an In.
func (o thing) held(in int) thing {
	o.in = in
	return o
}

// side is a heap and a paint of it.
type side struct {
	h     *heap.Heap
	p     *paint.Paint
	first uint64 // serials begin behind it
}

// sideOf answers a side of the node here with these objects, their serials from
// last + 1 on.
func sideOf(t *testing.T, last uint64, things ...thing) side {
	t.Helper()
	h, e := heap.New(here, maxCells, maxObjects, last)
	if e != api.OK {
		t.Fatalf("the test itself: no heap: %d", e)
	}
	p, e := paint.New(h, maxGrey)
	if e != api.OK {
		t.Fatalf("the test itself: no paint: %d", e)
	}
	s := side{h, p, last}
	for _, o := range things {
		s.add(t, o)
	}
	return s
}

// add makes an object, and marks it. Its references come last, so that a Scan
// ahead of them marks nothing else.
func (s side) add(t *testing.T, o thing) uint64 {
	t.Helper()
	serial, e := s.h.Make(len(o.refs), 1)
	if e != api.OK || s.h.SetIn(serial, o.in) != api.OK || s.h.SetVal(serial, 0, 1000+serial) != api.OK {
		t.Fatalf("the test itself: of %v, Make answered %d", o, e)
	}
	if o.marked {
		s.p.Shade(own(serial), o.rank)
	}
	if o.marked && !o.grey {
		s.p.Scan(serial)
	}
	for i, x := range o.refs {
		if _, e := s.h.SetRef(serial, i, x); e != api.OK {
			t.Fatalf("the test itself: SetRef(%d, %d, %v) answered %d", serial, i, x, e)
		}
	}
	return serial
}

// sweeper answers a sweeper of the side.
func (s side) sweeper(t *testing.T) *sweep.Sweeper {
	t.Helper()
	x, e := sweep.New(s.h, s.p)
	if x == nil || e != api.OK {
		t.Fatalf("15.1: New answered %v, %d", x, e)
	}
	return x
}

// told answers all that a side's heap and paint tell without a change, as a
// text.
func (s side) told() string {
	l := fmt.Sprint(s.h.Node(), s.h.Len(), s.h.Last(), s.h.Used())
	l += fmt.Sprint(" ", s.p.Turns(), s.p.Waiting(), s.p.Over(), s.p.Outs())
	for serial := s.first; serial <= s.h.Last()+1; serial++ {
		o, ok := s.h.Object(serial)
		rank, grey, marked := s.p.Mark(serial)
		l += fmt.Sprint("\n", o, ok, rank, grey, marked)
	}
	return l
}

// drawn answers each object, from the first on, as its rank, with a g if it is
// grey; a dot if it is not marked, an x if it is gone.
func (s side) drawn() string {
	var l []string
	for serial := s.first + 1; serial <= s.h.Last(); serial++ {
		rank, grey, marked := s.p.Mark(serial)
		_, there := s.h.Object(serial)
		switch {
		case !there:
			l = append(l, "x")
		case !marked:
			l = append(l, ".")
		case grey:
			l = append(l, fmt.Sprint(rank)+"g")
		default:
			l = append(l, fmt.Sprint(rank))
		}
	}
	return strings.Join(l, " ")
}

// shows looks at how a side is drawn.
func (s side) shows(t *testing.T, when, want string) {
	t.Helper()
	if got := s.drawn(); got != want {
		t.Fatalf("15.1: %s, it is %q, not %q", when, got, want)
	}
}

// walks does a Step for each text, which must answer the serial that the text
// begins with, and true; behind the serial stands how the side is drawn then.
func (s side) walks(t *testing.T, x *sweep.Sweeper, want ...string) {
	t.Helper()
	for i, l := range want {
		serial, ok := x.Step()
		if got := fmt.Sprint(serial, ": ", s.drawn()); !ok || got != l {
			t.Fatalf("15.1: Step %d of %d answered %v, and it is %q, not true and %q", i+1, len(want), ok, got, l)
		}
	}
}

// ends looks at whether Step answers 0 and false, again and again, and changes
// nothing.
func (s side) ends(t *testing.T, x *sweep.Sweeper) {
	t.Helper()
	was := s.told()
	for i := range 3 {
		if serial, ok := x.Step(); serial != 0 || ok {
			t.Fatalf("15.1: at the end, Step answered %d, %v the %d. time", serial, ok, i+1)
		}
		if now := s.told(); now != was {
			t.Fatalf("15.1: a Step that answers false turned\n%s\ninto\n%s", was, now)
		}
	}
}

// runs Steps till false, and answers the serials that were told, and how many
// Steps were true.
func runs(t *testing.T, x *sweep.Sweeper) ([]uint64, int) {
	t.Helper()
	var freed []uint64
	for n := range maxObjects + 1 {
		serial, ok := x.Step()
		switch {
		case !ok && serial != 0:
			t.Fatalf("R3: beside a false, Step answered %d", serial)
		case !ok:
			return freed, n
		case serial != 0:
			freed = append(freed, serial)
		}
	}
	t.Fatalf("15.1: %d Steps did not come to an end", maxObjects+1)
	return nil, 0
}

// twin is a sweeper, and beside it what it should have done: all that is done
// to the side a, its sweeper's Steps apart, is done to b; there the test sweeps
// by itself.
type twin struct {
	a, b  side
	x     *sweep.Sweeper
	place uint64
	end   uint64
	after []string // what was done, to be told where something is wrong
}

// twinOf answers a twin whose sweeper is new.
func twinOf(t *testing.T, last uint64, things ...thing) *twin {
	t.Helper()
	w := &twin{a: sideOf(t, last, things...), b: sideOf(t, last, things...)}
	w.renews(t)
	return w
}

// renews takes a new sweeper for the twin's.
func (w *twin) renews(t *testing.T) {
	t.Helper()
	w.x = w.a.sweeper(t)
	w.place, w.end = 0, w.b.h.Last()
}

// both does f to both sides.
func (w *twin) both(f func(s side)) {
	f(w.a)
	f(w.b)
}

// begin is a Begin.
func (w *twin) begin() {
	w.x.Begin()
	w.place, w.end = 0, w.b.h.Last()
}

// step is a Step, with what it must answer and do.
func (w *twin) step(t *testing.T) (uint64, bool) {
	t.Helper()
	want, wantOK := w.stepped()
	if got, ok := w.x.Step(); got != want || ok != wantOK {
		t.Fatalf("15.1: behind %v, Step answered %d, %v, not %d, %v; now\n%s", w.after, got, ok, want, wantOK, w.b.told())
	}
	w.holds(t)
	return want, wantOK
}

// stepped does what a Step should do, to the side b. The objects are found by
// asking for each serial.
func (w *twin) stepped() (uint64, bool) {
	for serial := max(w.place, w.b.first) + 1; serial <= w.end; serial++ {
		if _, ok := w.b.h.Object(serial); !ok {
			continue
		}
		w.place = serial
		if _, _, marked := w.b.p.Mark(serial); marked {
			return 0, true
		}
		w.b.h.Free(serial)
		w.b.p.Forget(serial)
		return serial, true
	}
	return 0, false
}

// holds holds what the side a tells against b.
func (w *twin) holds(t *testing.T) {
	t.Helper()
	if !w.agrees() {
		t.Fatalf("15.1: behind %v, told is\n%s\nnot\n%s", w.after, w.a.told(), w.b.told())
	}
}

// agrees tells whether the side a tells what b does.
func (w *twin) agrees() bool {
	a, b := w.a.p, w.b.p
	if a.Waiting() != b.Waiting() || a.Over() != b.Over() || a.Turns() != b.Turns() || !slices.Equal(a.Outs(), b.Outs()) {
		return false
	}
	for s := w.b.first; s <= w.b.h.Last()+1; s++ {
		rank, grey, ok := a.Mark(s)
		wantRank, wantGrey, wantOK := b.Mark(s)
		if rank != wantRank || grey != wantGrey || ok != wantOK || !sameObject(w.a.h, w.b.h, s) {
			return false
		}
	}
	return w.a.h.Len() == w.b.h.Len() && w.a.h.Last() == w.b.h.Last() && w.a.h.Used() == w.b.h.Used()
}

// sameObject tells whether both heaps tell the same of a serial.
func sameObject(a, b *heap.Heap, serial uint64) bool {
	x, ok := a.Object(serial)
	y, there := b.Object(serial)
	return ok == there && x.Serial == y.Serial && x.Cell == y.Cell && x.In == y.In && slices.Equal(x.Refs, y.Refs) && slices.Equal(x.Vals, y.Vals)
}

// ends steps till false, and twice more, which must be false again; how many
// were true.
func (w *twin) ends(t *testing.T) int {
	t.Helper()
	n := 0
	for {
		if _, ok := w.step(t); !ok {
			break
		}
		n++
	}
	for range 2 {
		if _, ok := w.step(t); ok {
			t.Fatal("15.1: behind a false, Step answered true")
		}
	}
	return n
}

// drains pops all that is on the stacks.
func (w *twin) drains(t *testing.T) {
	t.Helper()
	for {
		got, gotOK := w.a.p.Pop()
		want, ok := w.b.p.Pop()
		if got != want || gotOK != ok {
			t.Fatalf("15.1: on the stack is %d, %v, not %d, %v", got, gotOK, want, ok)
		}
		if !ok {
			return
		}
	}
}
