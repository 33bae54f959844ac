package mark_test

import (
	"fmt"
	"math"
	"slices"
	"strings"
	"testing"

	"mooring/api"
	"mooring/heap"
	"mooring/mark"
	"mooring/paint"
)

// The document's numbers a second time, so that a wrong one is met.
const (
	maxDist    = 40
	maxGrey    = 64
	maxNodes   = 64
	maxObjects = 64
	maxFields  = 7
	maxCells   = 4096
	maxSerial  = 1<<56 - 1

	here = 3 // the node of the tests' heaps
)

// own answers an ID of the tests' node, far one of another.
func own(serial uint64) api.ID           { return api.ID{Node: here, Serial: serial} }
func far(node int, serial uint64) api.ID { return api.ID{Node: node, Serial: serial} }

var none = api.ID{}

// thing is an object that is to be made.
type thing struct {
	in   int
	refs []api.ID
}

// held answers an object with such an In, and references to these of the
// tests' node.
func held(in int, serials ...uint64) thing {
	o := thing{in: in}
	for _, s := range serials {
		o.refs = append(o.refs, own(s))
	}
	return o
}

// side is a heap and a paint of it.
type side struct {
	h     *heap.Heap
	p     *paint.Paint
	first uint64 // serials begin behind it
}

// sideOf answers a side of the node here with these objects, their serials from
// last + 1 on, and a stack for most.
func sideOf(t *testing.T, most int, last uint64, things ...thing) side {
	t.Helper()
	h, e := heap.New(here, maxCells, maxObjects, last)
	if e != api.OK {
		t.Fatalf("the test itself: no heap: %d", e)
	}
	p, e := paint.New(h, most)
	if e != api.OK {
		t.Fatalf("the test itself: no paint: %d", e)
	}
	s := side{h, p, last}
	for _, o := range things {
		s.add(t, o)
	}
	return s
}

// add makes an object.
func (s side) add(t *testing.T, o thing) uint64 {
	t.Helper()
	serial, e := s.h.Make(len(o.refs), 1)
	if e != api.OK || s.h.SetIn(serial, o.in) != api.OK || s.h.SetVal(serial, 0, 1000+serial) != api.OK {
		t.Fatalf("the test itself: of %v, Make answered %d", o, e)
	}
	for i, x := range o.refs {
		if _, e := s.h.SetRef(serial, i, x); e != api.OK {
			t.Fatalf("the test itself: SetRef(%d, %d, %v) answered %d", serial, i, x, e)
		}
	}
	return serial
}

// marker answers a marker of the side.
func (s side) marker(t *testing.T) *mark.Marker {
	t.Helper()
	m, e := mark.New(s.h, s.p)
	if m == nil || e != api.OK {
		t.Fatalf("13.1: New answered %v, %d", m, e)
	}
	return m
}

// heapTold answers all that a side's heap tells, as a text.
func (s side) heapTold() string {
	l := fmt.Sprint(s.h.Node(), s.h.Len(), s.h.Last(), s.h.Used())
	for serial := s.first + 1; serial <= s.h.Last(); serial++ {
		o, ok := s.h.Object(serial)
		l += fmt.Sprint(" ", o, ok)
	}
	return l
}

// paintTold answers all that a side's paint tells without a change, as a text.
func (s side) paintTold() string {
	l := fmt.Sprint(s.p.Turns(), s.p.Waiting(), s.p.Over(), s.p.Outs())
	for serial := s.first; serial <= s.h.Last()+1; serial++ {
		rank, grey, ok := s.p.Mark(serial)
		l += fmt.Sprint(" ", rank, grey, ok)
	}
	return l
}

// told answers all that a side tells without a change.
func (s side) told() string { return s.heapTold() + "\n" + s.paintTold() }

// drawn answers each object, from the first on, as its rank, with a g if it is grey; a
// dot if it is not marked, an x if it is gone. Behind them, how many wait on
// the stack, with a ! if that is over.
func (s side) drawn() string {
	var l []string
	for serial := s.first + 1; serial <= s.h.Last(); serial++ {
		rank, grey, marked := s.p.Mark(serial)
		_, there := s.h.Object(serial)
		switch {
		case !there:
			l = append(l, "x")
		case !marked:
			l = append(l, ".")
		case grey:
			l = append(l, fmt.Sprint(rank)+"g")
		default:
			l = append(l, fmt.Sprint(rank))
		}
	}
	l = append(l, fmt.Sprint(s.p.Waiting()))
	if s.p.Over() {
		l = append(l, "!")
	}
	return strings.Join(l, " ")
}

// shows looks at how a side is drawn.
func (s side) shows(t *testing.T, when, want string) {
	t.Helper()
	if got := s.drawn(); got != want {
		t.Fatalf("13.2: %s, it is %q, not %q", when, got, want)
	}
}

// walks does a Step for each text, which must answer true, and looks at how the
// side is drawn behind it.
func (s side) walks(t *testing.T, m *mark.Marker, want ...string) {
	t.Helper()
	for i, l := range want {
		if !m.Step() {
			t.Fatalf("13.2: Step %d of %d answered false", i+1, len(want))
		}
		s.shows(t, fmt.Sprint("behind Step ", i+1), l)
	}
}

// ends looks at whether Step answers false, again and again, and changes
// nothing.
func (s side) ends(t *testing.T, m *mark.Marker) {
	t.Helper()
	was := s.drawn()
	for i := range 3 {
		if m.Step() {
			t.Fatalf("13.2: at the end, Step answered true the %d. time", i+1)
		}
		s.shows(t, "behind a false", was)
	}
}

// runs Steps till false, and answers how many were true.
func runs(t *testing.T, m *mark.Marker) int {
	t.Helper()
	most := 2 * (maxDist + 3) * (maxObjects + 1) * (maxObjects + 3)
	for n := range most {
		if !m.Step() {
			return n
		}
	}
	t.Fatalf("13.2: %d Steps did not come to an end", most)
	return 0
}

// twin is a marker, and beside it what it should have done: all that is done to
// the side a, its marker's Steps apart, is done to b; there the test steps by
// itself.
type twin struct {
	a, b  side
	m     *mark.Marker
	place uint64
	under bool // a pass is under way
	at    uint64
	after []string // what was done, to be told where something is wrong
}

// twinOf answers a twin whose marker is new.
func twinOf(t *testing.T, most int, last uint64, things ...thing) *twin {
	t.Helper()
	w := &twin{a: sideOf(t, most, last, things...), b: sideOf(t, most, last, things...)}
	w.m = w.a.marker(t)
	return w
}

// both does f to both sides.
func (w *twin) both(f func(s side)) {
	f(w.a)
	f(w.b)
}

// begin is a Begin.
func (w *twin) begin() {
	w.m.Begin()
	w.place, w.under, w.at = 0, false, 0
}

// step is a Step, with what it must answer and do.
func (w *twin) step(t *testing.T) bool {
	t.Helper()
	want := w.stepped()
	if got := w.m.Step(); got != want {
		t.Fatalf("13.2: behind %v, Step answered %v, not %v; now\n%s", w.after, got, want, w.b.told())
	}
	w.holds(t)
	return want
}

// stepped does what a Step should do, to the side b.
func (w *twin) stepped() bool {
	if serial, ok := w.b.p.Pop(); ok {
		w.b.p.Scan(serial)
		return true
	}
	if w.under {
		w.at, w.under = w.above(w.at)
		w.b.p.Scan(w.at)
	}
	switch {
	case w.under:
		return true
	case w.b.p.Over():
		w.b.p.Rest()
		w.under, w.at = true, 0
		return true
	}
	next, ok := w.above(w.place)
	if !ok {
		return false
	}
	w.place = next
	if o, _ := w.b.h.Object(next); o.In != 0 {
		w.b.p.Shade(own(next), o.In)
	}
	return true
}

// above answers the least object above, found by asking for each serial.
func (w *twin) above(serial uint64) (uint64, bool) {
	for s := max(serial, w.b.first) + 1; s <= w.b.h.Last(); s++ {
		if _, ok := w.b.h.Object(s); ok {
			return s, true
		}
	}
	return 0, false
}

// holds holds what the side a tells against b.
func (w *twin) holds(t *testing.T) {
	t.Helper()
	if !w.agrees() {
		t.Fatalf("13.2: behind %v, told is\n%s\nnot\n%s", w.after, w.a.told(), w.b.told())
	}
}

// agrees tells whether the side a tells what b does.
func (w *twin) agrees() bool {
	a, b := w.a.p, w.b.p
	if a.Waiting() != b.Waiting() || a.Over() != b.Over() || a.Turns() != b.Turns() || !slices.Equal(a.Outs(), b.Outs()) {
		return false
	}
	for s := w.b.first; s <= w.b.h.Last()+1; s++ {
		rank, grey, ok := a.Mark(s)
		wantRank, wantGrey, wantOK := b.Mark(s)
		if rank != wantRank || grey != wantGrey || ok != wantOK || !sameObject(w.a.h, w.b.h, s) {
			return false
		}
	}
	return w.a.h.Len() == w.b.h.Len() && w.a.h.Last() == w.b.h.Last() && w.a.h.Used() == w.b.h.Used()
}

// sameObject tells whether both heaps tell the same of a serial.
func sameObject(a, b *heap.Heap, serial uint64) bool {
	x, ok := a.Object(serial)
	y, there := b.Object(serial)
	return ok == there && x.Serial == y.Serial && x.Cell == y.Cell && x.In == y.In && slices.Equal(x.Refs, y.Refs) && slices.Equal(x.Vals, y.Vals)
}

// ends steps till false, and once more, which must be false again; how many were
// true.
func (w *twin) ends(t *testing.T) int {
	t.Helper()
	n := 0
	for w.step(t) {
		n++
	}
	if w.step(t) {
		t.Fatal("13.2: behind a false, Step answered true")
	}
	return n
}

// drains pops all that is on the stacks.
func (w *twin) drains(t *testing.T) {
	t.Helper()
	for {
		got, gotOK := w.a.p.Pop()
		want, ok := w.b.p.Pop()
		if got != want || gotOK != ok {
			t.Fatalf("13.2: on the stack is %d, %v, not %d, %v", got, gotOK, want, ok)
		}
		if !ok {
			return
		}
	}
}

// root is what was Shaded, and its rank.
type root struct {
	x    api.ID
	rank int
}

// least is what 13.3 asks for: the ranks of what is marked, and of what is met.
type least struct {
	ranks map[uint64]int
	met   map[api.ID]int
}

// leastOf goes through all that the roots, and the objects whose In is above 0,
// lead to, one rank after the other, so that the least comes first.
func leastOf(s side, roots []root) least {
	l := least{map[uint64]int{}, map[api.ID]int{}}
	for rank := range maxDist + 1 {
		for _, r := range roots {
			if min(max(r.rank, 0), maxDist) == rank {
				l.flood(s.h, r.x, rank)
			}
		}
		for serial := s.first + 1; serial <= s.h.Last(); serial++ {
			if o, ok := s.h.Object(serial); ok && o.In == rank && rank > 0 {
				l.flood(s.h, own(serial), rank)
			}
		}
	}
	return l
}

// flood enters x, and all that it leads to, but what was entered ahead.
func (l least) flood(h *heap.Heap, x api.ID, rank int) {
	if x.Node < 1 || x.Node > maxNodes || x.Serial < 1 || x.Serial > maxSerial {
		return
	}
	if x.Node != here {
		if _, ok := l.met[x]; !ok {
			l.met[x] = rank
		}
		return
	}
	o, there := h.Object(x.Serial)
	if _, ok := l.ranks[x.Serial]; ok || !there {
		return
	}
	l.ranks[x.Serial] = rank
	for _, y := range o.Refs {
		l.flood(h, y, rank)
	}
}

// outs answers what is met, rising.
func (l least) outs() []api.Out {
	var all []api.Out
	for x, rank := range l.met {
		all = append(all, api.Out{ID: x, Rank: rank})
	}
	slices.SortFunc(all, func(a, b api.Out) int {
		if a.ID.Node != b.ID.Node {
			return a.ID.Node - b.ID.Node
		}
		if a.ID.Serial < b.ID.Serial {
			return -1
		}
		return 1
	})
	return all
}

// reached holds what a side tells, when Step has answered false, against what
// 13.3 asks for.
func (s side) reached(t *testing.T, roots []root) {
	t.Helper()
	want := leastOf(s, roots)
	serials := []uint64{0, s.h.Last() + 1, math.MaxUint64}
	for serial := s.first + 1; serial <= s.h.Last(); serial++ {
		serials = append(serials, serial)
	}
	for _, serial := range serials {
		rank, grey, ok := s.p.Mark(serial)
		wantRank, wantOK := want.ranks[serial]
		if grey || ok != wantOK || rank != wantRank {
			t.Fatalf("13.3: at the end, Mark(%d) is %d, %v, %v, not %d, %v, of\n%s\nand %v", serial, rank, grey, ok, wantRank, wantOK, s.heapTold(), roots)
		}
	}
	if got := s.p.Outs(); !slices.Equal(got, want.outs()) {
		t.Fatalf("13.3: at the end, Outs is %v, not %v, of\n%s\nand %v", got, want.outs(), s.heapTold(), roots)
	}
	if s.p.Waiting() != 0 || s.p.Over() {
		t.Fatalf("13.3: at the end, Waiting is %d, Over %v", s.p.Waiting(), s.p.Over())
	}
}
