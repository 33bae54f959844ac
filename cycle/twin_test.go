package cycle_test

import (
	"fmt"
	"slices"
	"strings"
	"testing"

	"mooring/api"
	"mooring/cycle"
	"mooring/heap"
	"mooring/mark"
	"mooring/paint"
	"mooring/reach"
	"mooring/sweep"
)

// The document's numbers a second time, so that a wrong one is met.
const (
	maxDist     = 40
	maxGrey     = 64
	maxNodes    = 64
	maxMutators = 4
	maxObjects  = 64
	maxFields   = 7
	maxCells    = 4096
	maxWork     = 64
	maxSerial   = 1<<56 - 1

	idle     = 0
	arming   = 1
	scanning = 2
	marking  = 3
	reaching = 4
	sweeping = 5

	here = 3 // the node of the tests' heaps
)

// own answers an ID of the tests' node, far one of another.
func own(serial uint64) api.ID           { return api.ID{Node: here, Serial: serial} }
func far(node int, serial uint64) api.ID { return api.ID{Node: node, Serial: serial} }

var none = api.ID{}

// thing is an object that is to be made.
type thing struct {
	in   int
	refs []api.ID
}

// held answers an object with such an In, and these references.
func held(in int, refs ...api.ID) thing { return thing{in, refs} }

// bare answers an object that nobody else holds.
func bare(refs ...api.ID) thing { return thing{0, refs} }

// heapOf answers a heap with these objects, their serials from last + 1 on.
func heapOf(t *testing.T, last uint64, things ...thing) *heap.Heap {
	t.Helper()
	h, e := heap.New(here, maxCells, maxObjects, last)
	if e != api.OK {
		t.Fatalf("the test itself: no heap: %d", e)
	}
	for _, o := range things {
		add(t, h, o)
	}
	return h
}

// add makes an object.
func add(t *testing.T, h *heap.Heap, o thing) uint64 {
	t.Helper()
	serial, e := h.Make(len(o.refs), 1)
	if e != api.OK || h.SetIn(serial, o.in) != api.OK || h.SetVal(serial, 0, 1000+serial) != api.OK {
		t.Fatalf("the test itself: of %v, Make answered %d", o, e)
	}
	for i, x := range o.refs {
		if _, e := h.SetRef(serial, i, x); e != api.OK {
			t.Fatalf("the test itself: SetRef(%d, %d, %v) answered %d", serial, i, x, e)
		}
	}
	return serial
}

// setting is what a New is given beside its heap.
type setting struct{ mutators, grey, suspect, work int }

// simple is a setting of one mutator that does one unit a Step.
var simple = setting{1, maxGrey, 3, 1}

// collector answers a collector of h.
func (s setting) collector(t *testing.T, h *heap.Heap) *cycle.Cycle {
	t.Helper()
	c, e := cycle.New(h, s.mutators, s.grey, s.suspect, s.work)
	if c == nil || e != api.OK {
		t.Fatalf("16.1: New(%+v) answered %v, %d", s, c, e)
	}
	return c
}

// drawn answers the state, and each object from the serial 1 on as its rank,
// with a g if it is grey; a dot if it is not marked, an x if it is gone.
func drawn(h *heap.Heap, c *cycle.Cycle) string {
	names := []string{"Idle", "Arming", "Scanning", "Marking", "Reaching", "Sweeping"}
	l := []string{fmt.Sprint("state ", c.State())}
	if c.State() >= 0 && c.State() < len(names) {
		l[0] = names[c.State()] + ":"
	}
	for serial := uint64(1); serial <= h.Last(); serial++ {
		rank, grey, marked := c.Mark(serial)
		_, there := h.Object(serial)
		switch {
		case !there:
			l = append(l, "x")
		case !marked:
			l = append(l, ".")
		case grey:
			l = append(l, fmt.Sprint(rank)+"g")
		default:
			l = append(l, fmt.Sprint(rank))
		}
	}
	return strings.Join(l, " ")
}

// shows looks at how it is drawn.
func shows(t *testing.T, h *heap.Heap, c *cycle.Cycle, when, want string) {
	t.Helper()
	if got := drawn(h, c); got != want {
		t.Fatalf("16: %s, it is %q, not %q", when, got, want)
	}
}

// walks does a Step for each text, and looks at how it is drawn behind it; what
// was freed stands behind that, and a ! if Step answered true.
func walks(t *testing.T, h *heap.Heap, c *cycle.Cycle, want ...string) {
	t.Helper()
	for i, l := range want {
		freed, over := c.Step(0)
		got := drawn(h, c)
		if len(freed) > 0 {
			got += fmt.Sprint(" ", freed)
		}
		if over {
			got += " !"
		}
		if got != l {
			t.Fatalf("16.2: behind Step %d of %d, it is %q, not %q", i+1, len(want), got, l)
		}
	}
}

// arms begins a cycle, and arms each of so many mutators.
func arms(t *testing.T, c *cycle.Cycle, mutators int) {
	t.Helper()
	if freed, over := c.Step(0); len(freed) != 0 || over || c.State() != arming {
		t.Fatalf("16.2: from Idle, Step answered %v, %v, and the state is %d", freed, over, c.State())
	}
	for m := range mutators {
		answers(t, c, m)
	}
}

// answers is a Shake that must be awaited.
func answers(t *testing.T, c *cycle.Cycle, m int, held ...api.ID) {
	t.Helper()
	if !c.Shake(m, held) {
		t.Fatalf("16.3: in the state %d, Shake(%d) answered false", c.State(), m)
	}
}

// begins begins a cycle, in which the mutator 0 holds these, and goes on till
// all have scanned.
func begins(t *testing.T, c *cycle.Cycle, mutators int, held ...api.ID) {
	t.Helper()
	arms(t, c, mutators)
	answers(t, c, 0, held...)
	for m := 1; m <= mutators; m++ {
		answers(t, c, m)
	}
}

// ends Steps till it is Idle, and answers what was freed, and how many Steps
// there were.
func ends(t *testing.T, c *cycle.Cycle) ([]uint64, int) {
	t.Helper()
	var freed []uint64
	most := (maxDist + 3) * (maxObjects + 1) * (maxObjects + 3)
	for n := range most {
		l, over := c.Step(0)
		freed = append(freed, l...)
		if over != (c.State() == idle) {
			t.Fatalf("16.2: Step answered %v, and the state is %d", over, c.State())
		}
		if over {
			return freed, n + 1
		}
	}
	t.Fatalf("16.6: %d Steps did not come to an end", most)
	return nil, 0
}

// reaches Steps till it is in this state.
func reaches(t *testing.T, c *cycle.Cycle, state int) {
	t.Helper()
	for range (maxDist + 3) * (maxObjects + 1) * (maxObjects + 3) {
		if c.State() == state {
			return
		}
		c.Step(0)
	}
	t.Fatalf("16.2: the state is %d, and never %d", c.State(), state)
}

// told answers all that a heap and its collector tell, as a text.
func told(h *heap.Heap, c *cycle.Cycle) string {
	l := fmt.Sprint(h.Len(), h.Last(), h.Used(), c.State(), c.Turns(), c.Outs(), c.Summary(), c.Phase())
	for m := -1; m <= maxMutators+1; m++ {
		l += fmt.Sprint(" ", c.IsArmed(m), c.HasScanned(m))
	}
	for serial, ok := h.Next(0); ok; serial, ok = h.Next(serial) {
		o, _ := h.Object(serial)
		rank, grey, marked := c.Mark(serial)
		l += fmt.Sprint("\n", o, rank, grey, marked)
	}
	return l
}

// twin is a collector, and beside it what it should have done: all that is done
// to its heap by others is done to another heap, too, which the test collects by
// itself.
type twin struct {
	setting
	h     *heap.Heap
	c     *cycle.Cycle
	first uint64 // serials begin behind it

	b       *heap.Heap
	p       *paint.Paint
	m       *mark.Marker
	r       *reach.Reacher
	s       *sweep.Sweeper
	state   int
	armed   map[int]bool
	scanned map[int]bool
	stir    uint64
	summary cycle.Summary
	after   []string // what was done, to be told where something is wrong
}

// twin answers a twin that is Idle.
func (s setting) twin(t *testing.T, last uint64, things ...thing) *twin {
	t.Helper()
	w := &twin{setting: s, h: heapOf(t, last, things...), b: heapOf(t, last, things...), first: last}
	w.c = s.collector(t, w.h)
	w.p, _ = paint.New(w.b, s.grey)
	w.m, _ = mark.New(w.b, w.p)
	w.r, _ = reach.New(w.b, w.p)
	w.s, _ = sweep.New(w.b, w.p)
	w.armed, w.scanned = map[int]bool{}, map[int]bool{}
	return w
}

// both does f to both heaps.
func (w *twin) both(f func(h *heap.Heap)) {
	f(w.h)
	f(w.b)
}

// did keeps what was done.
func (w *twin) did(parts ...any) {
	w.after = append(w.after, fmt.Sprint(parts...))
	if len(w.after) > 30 {
		w.after = slices.Clone(w.after[1:])
	}
}

// all tells whether each mutator and the port stand in the list.
func (w *twin) all(list map[int]bool) bool { return len(list) == w.mutators+1 }

// step is a Step, with what it must answer.
func (w *twin) step(t *testing.T, stir uint64) ([]uint64, bool) {
	t.Helper()
	w.did("Step ", stir)
	want, wantOver := w.stepped(stir)
	if got, over := w.c.Step(stir); !slices.Equal(got, want) || over != wantOver {
		t.Fatalf("16.2: behind %v, Step answered %v, %v, not %v, %v", w.after, got, over, want, wantOver)
	}
	w.holds(t)
	return want, wantOver
}

// stepped does what a Step should do, to the test's own heap.
func (w *twin) stepped(stir uint64) (freed []uint64, over bool) {
	for range w.work {
		if w.state == scanning && w.all(w.scanned) {
			w.state = marking
			w.m.Begin()
		}
		switch w.state {
		case idle:
			w.p.Turn()
			w.armed[w.mutators] = true
			w.state = arming
			return freed, false
		case arming, scanning:
			return freed, false
		case marking:
			w.marked(stir)
		case reaching:
			w.reached()
		case sweeping:
			serial, more := w.s.Step()
			if !more {
				w.state, w.armed, w.scanned = idle, map[int]bool{}, map[int]bool{}
				return freed, true
			}
			if serial != 0 {
				freed = append(freed, serial)
			}
		}
	}
	return freed, false
}

// marked is a unit while it is Marking.
func (w *twin) marked(stir uint64) {
	if !w.m.Step() {
		w.stir, w.state = stir, reaching
		w.r.Begin(w.suspect)
	}
}

// reached is a unit while it is Reaching.
func (w *twin) reached() {
	if w.m.Step() || w.r.Step() {
		return
	}
	w.summary = cycle.Summary{Stir: w.stir, Rows: w.r.Rows(), Ok: true}
	for _, o := range w.p.Outs() {
		if o.Rank > w.suspect {
			w.summary.Outs = append(w.summary.Outs, o)
		}
	}
	w.s.Begin()
	w.state = sweeping
}

// shake is a Shake, with what it must answer.
func (w *twin) shake(t *testing.T, m int, held ...api.ID) bool {
	t.Helper()
	w.did("Shake ", m, held)
	want := w.shaken(m, held)
	if got := w.c.Shake(m, held); got != want {
		t.Fatalf("16.3: behind %v, Shake answered %v, not %v", w.after, got, want)
	}
	w.holds(t)
	return want
}

// shaken does what a Shake should do, to the test's own heap.
func (w *twin) shaken(m int, held []api.ID) bool {
	if m < 0 || m > w.mutators {
		return false
	}
	switch {
	case w.state == arming && !w.armed[m]:
		w.armed[m] = true
		if w.all(w.armed) {
			w.state = scanning
		}
		return true
	case w.state == scanning && !w.scanned[m]:
		w.scanned[m] = true
		for _, x := range held {
			w.p.Shade(x, 0)
		}
		return true
	}
	return false
}

// store is a Store.
func (w *twin) store(t *testing.T, m int, old, now api.ID) {
	t.Helper()
	w.did("Store ", m, old, now)
	w.c.Store(m, old, now)
	if w.state >= arming && w.state <= reaching && w.armed[m] {
		w.p.Shade(old, 0)
		if !w.scanned[m] {
			w.p.Shade(now, 0)
		}
	}
	w.holds(t)
}

// born is a Born.
func (w *twin) born(t *testing.T, m int, serial uint64) {
	t.Helper()
	w.did("Born ", m, " ", serial)
	w.c.Born(m, serial)
	if w.state == arming && w.armed[m] {
		w.p.Shade(own(serial), 0)
	} else if w.state > arming && w.state < sweeping && w.armed[m] {
		w.p.Blacken(serial)
	}
	w.holds(t)
}

// touch is a Touch.
func (w *twin) touch(t *testing.T, x api.ID) {
	t.Helper()
	w.did("Touch ", x)
	w.c.Touch(x)
	if w.state >= arming && w.state < sweeping || w.state == sweeping && x.Node != here {
		w.p.Shade(x, 0)
	}
	w.holds(t)
}

// holds holds all that the collector and its heap tell against the test's own.
func (w *twin) holds(t *testing.T) {
	t.Helper()
	if w.c.State() != w.state || w.c.Turns() != w.p.Turns() || !slices.Equal(w.c.Outs(), w.p.Outs()) {
		t.Fatalf("16.1: behind %v, told are the state %d, %d Turns and the Outs %v, not %d, %d and %v",
			w.after, w.c.State(), w.c.Turns(), w.c.Outs(), w.state, w.p.Turns(), w.p.Outs())
	}
	if got := w.c.Summary(); !sameSummary(got, w.summary) {
		t.Fatalf("16.2: behind %v, the Summary is %+v, not %+v", w.after, got, w.summary)
	}
	for m := -1; m <= maxMutators+1; m++ {
		if w.c.IsArmed(m) != w.armed[m] || w.c.HasScanned(m) != w.scanned[m] {
			t.Fatalf("16.3: behind %v, of %d it is told that it is armed: %v, has scanned: %v", w.after, m, w.c.IsArmed(m), w.c.HasScanned(m))
		}
	}
	for serial := w.first; serial <= w.b.Last()+1; serial++ {
		w.same(t, serial)
	}
	if w.h.Len() != w.b.Len() || w.h.Last() != w.b.Last() || w.h.Used() != w.b.Used() {
		t.Fatalf("16.2: behind %v, the heap has %d objects up to %d over %d cells, not %d up to %d over %d",
			w.after, w.h.Len(), w.h.Last(), w.h.Used(), w.b.Len(), w.b.Last(), w.b.Used())
	}
}

// same holds what is told of one serial against the test's own.
func (w *twin) same(t *testing.T, serial uint64) {
	t.Helper()
	rank, grey, ok := w.c.Mark(serial)
	wantRank, wantGrey, wantOK := w.p.Mark(serial)
	if rank != wantRank || grey != wantGrey || ok != wantOK {
		t.Fatalf("16.1: behind %v, Mark(%d) answered %d, %v, %v, not %d, %v, %v", w.after, serial, rank, grey, ok, wantRank, wantGrey, wantOK)
	}
	x, there := w.h.Object(serial)
	y, wantThere := w.b.Object(serial)
	if there != wantThere || x.Cell != y.Cell || x.In != y.In || !slices.Equal(x.Refs, y.Refs) || !slices.Equal(x.Vals, y.Vals) {
		t.Fatalf("16.2: behind %v, the object %d is %+v, %v, not %+v, %v", w.after, serial, x, there, y, wantThere)
	}
}

// sameSummary tells whether two Summaries tell the same.
func sameSummary(a, b cycle.Summary) bool {
	rows := slices.EqualFunc(a.Rows, b.Rows, func(x, y api.Reach) bool { return x.In == y.In && slices.Equal(x.Outs, y.Outs) })
	return rows && a.Stir == b.Stir && a.Ok == b.Ok && slices.Equal(a.Outs, b.Outs)
}

// ends answers for each one, and Steps, through the cycle that is under way and
// two more.
func (w *twin) ends(t *testing.T) {
	t.Helper()
	most := 3 * (maxDist + 3) * (maxObjects + 1) * (maxObjects + 3)
	cycles := 0
	for range most {
		if _, over := w.step(t, uint64(len(w.armed))); over {
			cycles++
		}
		if cycles == 3 {
			return
		}
		for m := range w.mutators + 1 {
			w.shake(t, m)
		}
	}
	t.Fatalf("16.6: %d Steps did not come to an end", most)
}
