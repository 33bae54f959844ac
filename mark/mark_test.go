package mark_test

import (
	"testing"

	"mooring/api"
	"mooring/heap"
	"mooring/mark"
	"mooring/paint"
)

func TestTheChaptersExamples(t *testing.T) {
	if sideOf(t, 4, 0).marker(t).Step() {
		t.Error("13.2: with nothing in the heap, Step answered true")
	}
	s := sideOf(t, 4, 0, held(2))
	m := s.marker(t)
	if !m.Step() {
		t.Error("13.2: the first Step answered false")
	}
	if rank, grey, ok := s.p.Mark(1); rank != 2 || !grey || !ok {
		t.Errorf("13.2: Mark(1) answered %d, %v, %v, not 2, grey", rank, grey, ok)
	}
	if !m.Step() || m.Step() {
		t.Error("13.2: the second Step, or the third, answered otherwise")
	}
}

// The error and the limits are numbers that the document names.
func TestTheNumbers(t *testing.T) {
	if api.OK != 0 || api.ErrArg != 1 || api.MaxDist != maxDist || api.MaxGrey != maxGrey || api.MaxNodes != maxNodes || api.MaxObjects != maxObjects || api.MaxFields != maxFields || api.MaxCells != maxCells || api.MaxSerial != maxSerial {
		t.Error("13: the error, or the limits, are other numbers")
	}
}

// newRefused is a New that must answer ErrArg.
func newRefused(t *testing.T, h *heap.Heap, p *paint.Paint) {
	t.Helper()
	if m, e := mark.New(h, p); m != nil || e != api.ErrArg {
		t.Errorf("13.1: New(%v, %v) answered %v, %d", h != nil, p != nil, m, e)
	}
}

func TestNewWithoutAHeapOrAPaint(t *testing.T) {
	s := sideOf(t, 2, 0, held(2, 1), held(0))
	s.p.Shade(own(2), 1)
	was := s.told()
	newRefused(t, nil, s.p)
	newRefused(t, s.h, nil)
	newRefused(t, nil, nil)
	if now := s.told(); now != was {
		t.Errorf("R3: a New that is refused turned\n%s\ninto\n%s", was, now)
	}
}

// news answers sides of all kinds: with nothing, with marks, over or not, with
// what is grey on the stack and beside it.
func news(t *testing.T) []*twin {
	t.Helper()
	things := []thing{held(2, 2, 3), held(0, 1), held(0), held(5, 3)}
	all := []*twin{twinOf(t, 1, 0), twinOf(t, 1, 0, things...), twinOf(t, maxGrey, 0, things...)}
	for most := 1; most <= 3; most++ {
		w := twinOf(t, most, 0, things...)
		w.both(func(s side) {
			s.p.Turn()
			s.p.Shade(own(4), 7)
			s.p.Shade(own(2), 1)
			s.p.Shade(far(9, 9), 3)
			s.p.Pop()
			s.p.Shade(own(1), 4)
			s.p.Blacken(3)
		})
		all = append(all, w)
	}
	return all
}

// New changes neither the heap nor the paint, and answers a marker that has
// begun: it goes on as one whose place is 0, and without a pass.
func TestNewHasBegun(t *testing.T) {
	for _, w := range news(t) {
		was := w.a.told()
		w.m = w.a.marker(t)
		if now := w.a.told(); now != was {
			t.Errorf("13.1: New turned\n%s\ninto\n%s", was, now)
		}
		w.holds(t)
		w.ends(t)
	}
}

// What was told of a marker's steps is not seen in a new one of the same heap
// and paint.
func TestNewBehindAnother(t *testing.T) {
	for k := range 14 {
		w := twinOf(t, 1, 0, held(2, 2, 3), held(0, 1), held(0), held(5, 3))
		for range k {
			w.step(t)
		}
		w.m = w.a.marker(t)
		w.place, w.under = 0, false
		w.ends(t)
	}
}

// A marker that has begun, and begins again, is as it was.
func TestBeginOfANewOne(t *testing.T) {
	for _, w := range news(t) {
		for range 3 {
			was := w.a.told()
			w.begin()
			if now := w.a.told(); now != was {
				t.Errorf("13.1: Begin turned\n%s\ninto\n%s", was, now)
			}
		}
		w.holds(t)
		w.ends(t)
	}
}

// Begin at each point there is, to the end and behind it, with room for one and
// for more: neither the heap nor the paint is another one, and the marker goes
// on from the place 0, without a pass.
func TestBeginAtEveryPoint(t *testing.T) {
	things := []thing{held(3, 4, 2, 3), held(0, 3, 5), held(2, 1), held(0, 2, 5), held(1, 4)}
	for most := 1; most <= 5; most++ {
		points := 2 + twinOf(t, most, 0, things...).ends(t)
		for k := range points {
			w := twinOf(t, most, 0, things...)
			for range k {
				w.step(t)
			}
			was := w.a.told()
			w.begin()
			if now := w.a.told(); now != was {
				t.Fatalf("13.1: behind %d Steps, Begin turned\n%s\ninto\n%s", k, was, now)
			}
			w.ends(t)
		}
	}
}

// Told without a twin: behind a false, Begin lets each object be looked at once
// more, and nothing else is done.
func TestBeginBehindAFalse(t *testing.T) {
	s := sideOf(t, 4, 0, held(2, 2), held(0), held(0), held(1))
	m := s.marker(t)
	runs(t, m)
	for range 3 {
		m.Begin()
		s.walks(t, m, "2 2 . 1 0", "2 2 . 1 0", "2 2 . 1 0", "2 2 . 1 0")
		s.ends(t, m)
	}
}

// Begin lets what was gone by be met with the In that it has now.
func TestBeginMeetsANewIn(t *testing.T) {
	s := sideOf(t, 4, 0, held(0), held(0))
	m := s.marker(t)
	runs(t, m)
	s.h.SetIn(1, 6)
	s.ends(t, m)
	m.Begin()
	s.walks(t, m, "6g . 1", "6 . 0", "6 . 0")
	s.ends(t, m)
}

// Begin within a pass: no pass is under way, so that the next Step goes on with
// the place. What the pass would have come to stays grey, till another one.
func TestBeginWithinAPass(t *testing.T) {
	for k := range 3 {
		s := sideOf(t, 1, 0, held(2, 2, 3), held(0), held(0))
		m := s.marker(t)
		s.walks(t, m, "2g . . 1", "2 2g 2g 1 !", "2 2 2g 0 !", "2 2 2g 0")
		for range k {
			s.walks(t, m, "2 2 2g 0")
		}
		m.Begin()
		s.walks(t, m, "2 2 2g 0", "2 2 2g 0", "2 2 2g 0")
		s.ends(t, m)
	}
}

// Begin ahead of a pass: the paint is Over still, and the pass comes.
func TestBeginAheadOfAPass(t *testing.T) {
	s := sideOf(t, 1, 0, held(2, 2, 3), held(0), held(0))
	m := s.marker(t)
	s.walks(t, m, "2g . . 1", "2 2g 2g 1 !", "2 2 2g 0 !")
	m.Begin()
	s.shows(t, "behind Begin", "2 2 2g 0 !")
	s.walks(t, m, "2 2 2g 0", "2 2 2g 0", "2 2 2g 0", "2 2 2 0")
	s.walks(t, m, "2 2 2 0", "2 2 2 0", "2 2 2 0")
	s.ends(t, m)
}

// Begin leaves what stands on the stack, which comes first as ever.
func TestBeginLeavesTheStack(t *testing.T) {
	s := sideOf(t, 4, 0, held(2), held(3), held(0))
	m := s.marker(t)
	s.p.Shade(own(3), 1)
	s.p.Shade(own(2), 2)
	m.Begin()
	s.shows(t, "behind Begin", ". 2g 1g 2")
	s.walks(t, m, ". 2 1g 1", ". 2 1 0", "2g 2 1 1")
}

// The heap is as it was, whatever the marker does.
func TestTheMarkerLeavesTheHeap(t *testing.T) {
	s := sideOf(t, 2, 0, held(3, 2, 1, 9), thing{0, []api.ID{far(2, 7), none, own(1)}}, held(40, 3), held(0))
	was := s.heapTold()
	m := s.marker(t)
	for range 3 {
		runs(t, m)
		m.Begin()
		s.p.Shade(own(4), 0)
	}
	runs(t, m)
	if now := s.heapTold(); now != was {
		t.Errorf("13: a marker turned the heap\n%s\ninto\n%s", was, now)
	}
	if s.p.Turns() != 0 {
		t.Errorf("13: a marker Turned the paint %d times", s.p.Turns())
	}
}
