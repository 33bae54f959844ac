package reach_test

import (
	"fmt"
	"slices"
	"strings"
	"testing"

	"mooring/api"
	"mooring/heap"
	"mooring/paint"
	"mooring/reach"
)

// The document's numbers a second time, so that a wrong one is met.
const (
	maxDist    = 40
	maxGrey    = 64
	maxNodes   = 64
	maxObjects = 64
	maxFields  = 7
	maxCells   = 4096
	maxSerial  = 1<<56 - 1

	here = 3  // the node of the tests' heaps
	bare = -1 // the rank of what is not marked
)

// own answers an ID of the tests' node, far one of another.
func own(serial uint64) api.ID           { return api.ID{Node: here, Serial: serial} }
func far(node int, serial uint64) api.ID { return api.ID{Node: node, Serial: serial} }

var none = api.ID{}

// thing is an object that is to be made, and marked.
type thing struct {
	in, rank int
	refs     []api.ID
}

// held answers an object with such an In and rank, and these references.
func held(in, rank int, refs ...api.ID) thing { return thing{in, rank, refs} }

// to answers IDs of the tests' node.
func to(serials ...uint64) []api.ID {
	var l []api.ID
	for _, s := range serials {
		l = append(l, own(s))
	}
	return l
}

// side is a heap and a paint of it.
type side struct {
	h     *heap.Heap
	p     *paint.Paint
	first uint64 // serials begin behind it
}

// sideOf answers a side of the node here with these objects, their serials from
// last + 1 on.
func sideOf(t *testing.T, last uint64, things ...thing) side {
	t.Helper()
	h, e := heap.New(here, maxCells, maxObjects, last)
	if e != api.OK {
		t.Fatalf("the test itself: no heap: %d", e)
	}
	p, e := paint.New(h, maxGrey)
	if e != api.OK {
		t.Fatalf("the test itself: no paint: %d", e)
	}
	s := side{h, p, last}
	for _, o := range things {
		s.add(t, o)
	}
	return s
}

// add makes an object, and marks it.
func (s side) add(t *testing.T, o thing) uint64 {
	t.Helper()
	serial, e := s.h.Make(len(o.refs), 1)
	if e != api.OK || s.h.SetIn(serial, o.in) != api.OK || s.h.SetVal(serial, 0, 1000+serial) != api.OK {
		t.Fatalf("the test itself: of %v, Make answered %d", o, e)
	}
	for i, x := range o.refs {
		if _, e := s.h.SetRef(serial, i, x); e != api.OK {
			t.Fatalf("the test itself: SetRef(%d, %d, %v) answered %d", serial, i, x, e)
		}
	}
	if o.rank != bare {
		s.p.Shade(own(serial), o.rank)
	}
	return serial
}

// meets lets remote IDs be met with a rank.
func (s side) meets(rank int, l ...api.ID) side {
	for _, x := range l {
		s.p.Shade(x, rank)
	}
	return s
}

// remark lets an object be marked with a rank, also with a greater one than it
// was; with bare it is marked no more.
func (s side) remark(serial uint64, rank int) {
	s.p.Forget(serial)
	if rank != bare {
		s.p.Shade(own(serial), rank)
	}
}

// reacher answers a reacher of the side that has begun with a bound.
func (s side) reacher(t *testing.T, bound int) *reach.Reacher {
	t.Helper()
	r, e := reach.New(s.h, s.p)
	if r == nil || e != api.OK {
		t.Fatalf("14.1: New answered %v, %d", r, e)
	}
	r.Begin(bound)
	return r
}

// told answers all that a side's heap and paint tell without a change, as a
// text.
func (s side) told() string {
	l := fmt.Sprint(s.h.Node(), s.h.Len(), s.h.Last(), s.h.Used())
	l += fmt.Sprint(" ", s.p.Turns(), s.p.Waiting(), s.p.Over(), s.p.Outs())
	for serial := s.first; serial <= s.h.Last()+1; serial++ {
		o, ok := s.h.Object(serial)
		rank, grey, marked := s.p.Mark(serial)
		l += fmt.Sprint("\n", o, ok, rank, grey, marked)
	}
	return l
}

// drawn answers rows as a text: each as its In, a colon, and its Outs.
func drawn(rows []api.Reach) string {
	var l []string
	for _, w := range rows {
		l = append(l, drawnRow(w.In, w.Outs))
	}
	return strings.Join(l, " ")
}

// drawnRow answers one row.
func drawnRow(in uint64, outs []api.ID) string {
	var l []string
	for _, x := range outs {
		l = append(l, fmt.Sprintf("%d.%d", x.Node, x.Serial))
	}
	return fmt.Sprintf("%d:%s", in, strings.Join(l, ","))
}

// shows looks at the rows that are told.
func shows(t *testing.T, r *reach.Reacher, when, want string) {
	t.Helper()
	if got := drawn(r.Rows()); got != want {
		t.Fatalf("14.3: %s, Rows is %q, not %q", when, got, want)
	}
}

// walks does a Step for each text, which must answer true, and looks at the
// rows behind it.
func walks(t *testing.T, r *reach.Reacher, want ...string) {
	t.Helper()
	for i, l := range want {
		if !r.Step() {
			t.Fatalf("14.2: Step %d of %d answered false", i+1, len(want))
		}
		shows(t, r, fmt.Sprint("behind Step ", i+1), l)
	}
}

// ends looks at whether Step answers false, again and again, and the rows stay.
func ends(t *testing.T, r *reach.Reacher, want string) {
	t.Helper()
	for i := range 3 {
		shows(t, r, "at the end", want)
		if r.Step() {
			t.Fatalf("14.2: at the end, Step answered true the %d. time", i+1)
		}
	}
	shows(t, r, "behind a false", want)
}

// runs Steps till false, and answers how many were true.
func runs(t *testing.T, r *reach.Reacher) int {
	t.Helper()
	most := (maxObjects+1)*(maxObjects+1) + 2
	for n := range most {
		if !r.Step() {
			return n
		}
	}
	t.Fatalf("14.2: %d Steps did not come to an end", most)
	return 0
}

// twin is a reacher, and beside it what it should have come to.
type twin struct {
	side
	r     *reach.Reacher
	bound int
	place uint64
	under bool // a row is under way; of it are:
	in    uint64
	has   []uint64
	waits []uint64
	outs  []api.ID
	ended []string
	after []string // what was done, to be told where something is wrong
}

// twinOf answers a twin whose reacher has begun with a bound.
func twinOf(t *testing.T, bound int, s side) *twin {
	t.Helper()
	return &twin{side: s, r: s.reacher(t, bound), bound: bound}
}

// begin is a Begin.
func (w *twin) begin(bound int) {
	w.r.Begin(bound)
	w.bound, w.place, w.ended = bound, 0, nil
	w.drop()
}

// drop lets no row be under way.
func (w *twin) drop() { w.under, w.in, w.has, w.waits, w.outs = false, 0, nil, nil, nil }

// step is a Step, with what it must answer and come to.
func (w *twin) step(t *testing.T) bool {
	t.Helper()
	want := w.stepped()
	if got := w.r.Step(); got != want {
		t.Fatalf("14.2: behind %v, Step answered %v, not %v; now\n%s", w.after, got, want, w.told())
	}
	w.holds(t)
	return want
}

// holds holds the rows that are told against those that should be.
func (w *twin) holds(t *testing.T) {
	t.Helper()
	if got, want := drawn(w.r.Rows()), strings.Join(w.ended, " "); got != want {
		t.Fatalf("14.3: behind %v, with the bound %d, Rows is %q, not %q; now\n%s", w.after, w.bound, got, want, w.told())
	}
}

// stepped comes to what a Step should come to.
func (w *twin) stepped() bool {
	if n := len(w.waits); n > 0 {
		serial := w.waits[n-1]
		w.waits = w.waits[:n-1]
		w.follow(serial)
		return true
	}
	next, ok := w.above(w.place)
	switch {
	case ok:
		w.place = next
		if o, _ := w.h.Object(next); o.In != 0 && w.suspect(next) {
			w.end()
			w.under, w.in, w.has, w.waits = true, next, []uint64{next}, []uint64{next}
		}
		return true
	case w.under:
		w.end()
		return true
	}
	return false
}

// follow goes through an object's references, asked for one by one.
func (w *twin) follow(serial uint64) {
	for field := 0; ; field++ {
		x, e := w.h.Ref(serial, field)
		if e != api.OK {
			return
		}
		rank, met := w.p.Met(x)
		switch {
		case x.Node != here && met && rank > w.bound:
			w.outs = append(w.outs, x)
		case x.Node == here && w.suspect(x.Serial) && !slices.Contains(w.has, x.Serial):
			w.has = append(w.has, x.Serial)
			w.waits = append(w.waits, x.Serial)
		}
	}
}

// end ends the row under way.
func (w *twin) end() {
	if w.under {
		w.ended = append(w.ended, drawnRow(w.in, rising(w.outs)))
	}
	w.drop()
}

// rising answers IDs in their order, each once.
func rising(l []api.ID) []api.ID {
	l = slices.Clone(l)
	slices.SortFunc(l, func(a, b api.ID) int {
		switch {
		case a.Node != b.Node:
			return a.Node - b.Node
		case a.Serial < b.Serial:
			return -1
		case a.Serial > b.Serial:
			return 1
		}
		return 0
	})
	return slices.Compact(l)
}

// suspect tells whether an object is suspect.
func (w *twin) suspect(serial uint64) bool {
	rank, _, ok := w.p.Mark(serial)
	return ok && rank > w.bound
}

// above answers the least object above, found by asking for each serial.
func (w *twin) above(serial uint64) (uint64, bool) {
	for s := max(serial, w.first) + 1; s <= w.h.Last(); s++ {
		if _, ok := w.h.Object(s); ok {
			return s, true
		}
	}
	return 0, false
}

// ends steps till false, and twice more, which must be false again; how many
// were true.
func (w *twin) ends(t *testing.T) int {
	t.Helper()
	n := 0
	for w.step(t) {
		n++
	}
	if w.step(t) || w.step(t) {
		t.Fatal("14.2: behind a false, Step answered true")
	}
	return n
}

// leads answers what 14.4 asks for: a row for each suspect object whose In is
// above 0, with all suspect remote IDs to which suspect objects lead from it.
// It lets what is reached grow until it grows no more.
func (s side) leads(bound int) string {
	suspect := func(serial uint64) bool {
		rank, _, ok := s.p.Mark(serial)
		return ok && rank > bound
	}
	var l []string
	for from := s.first + 1; from <= s.h.Last(); from++ {
		if o, ok := s.h.Object(from); !ok || o.In == 0 || !suspect(from) {
			continue
		}
		reached := map[api.ID]bool{own(from): true}
		for was := 0; was != len(reached); {
			was = len(reached)
			s.grow(reached, suspect, bound)
		}
		var outs []api.ID
		for x := range reached {
			if x.Node != here {
				outs = append(outs, x)
			}
		}
		l = append(l, drawnRow(from, rising(outs)))
	}
	return strings.Join(l, " ")
}

// grow enters each suspect ID that an object of those reached refers to.
func (s side) grow(reached map[api.ID]bool, suspect func(serial uint64) bool, bound int) {
	for serial := s.first + 1; serial <= s.h.Last(); serial++ {
		o, _ := s.h.Object(serial)
		if !reached[own(serial)] {
			continue
		}
		for _, x := range o.Refs {
			rank, met := s.p.Met(x)
			if x.Node == here && suspect(x.Serial) || met && rank > bound {
				reached[x] = true
			}
		}
	}
}

// reaches runs to the end, and holds the rows against what 14.4 asks for.
func (s side) reaches(t *testing.T, r *reach.Reacher, bound int) {
	t.Helper()
	r.Begin(bound)
	runs(t, r)
	if got, want := drawn(r.Rows()), s.leads(bound); got != want {
		t.Fatalf("14.4: with the bound %d, Rows is %q, not %q, of\n%s", bound, got, want, s.told())
	}
}
