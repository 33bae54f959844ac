package reach_test

import (
	"math"
	"testing"

	"mooring/api"
	"mooring/heap"
	"mooring/paint"
	"mooring/reach"
)

func TestTheChaptersExamples(t *testing.T) {
	h, _ := heap.New(1, 64, 8, 0)
	h.Make(1, 0)
	h.Make(2, 0)
	h.SetRef(1, 0, far(1, 2))
	h.SetRef(2, 0, far(2, 7))
	h.SetRef(2, 1, far(1, 1))
	h.SetIn(1, 5)
	p, _ := paint.New(h, 4)
	p.Shade(far(1, 1), 5)
	p.Scan(1)
	p.Scan(2)
	r, e := reach.New(h, p)
	if e != api.OK {
		t.Fatalf("14.1: New answered %d", e)
	}
	r.Begin(3)
	walks(t, r, "", "", "", "", "1:2.7")
	ends(t, r, "1:2.7")
	r.Begin(5)
	walks(t, r, "", "")
	ends(t, r, "")
}

// The error and the limits are numbers that the document names.
func TestTheNumbers(t *testing.T) {
	if api.OK != 0 || api.ErrArg != 1 || api.MaxDist != maxDist || api.MaxGrey != maxGrey || api.MaxNodes != maxNodes || api.MaxObjects != maxObjects || api.MaxFields != maxFields || api.MaxCells != maxCells || api.MaxSerial != maxSerial {
		t.Error("14: the error, or the limits, are other numbers")
	}
}

// newRefused is a New that must answer ErrArg.
func newRefused(t *testing.T, h *heap.Heap, p *paint.Paint) {
	t.Helper()
	if r, e := reach.New(h, p); r != nil || e != api.ErrArg {
		t.Errorf("14.1: New(%v, %v) answered %v, %d", h != nil, p != nil, r, e)
	}
}

func TestNewWithoutAHeapOrAPaint(t *testing.T) {
	s := sideOf(t, 0, held(2, 2, to(1)...), held(0, bare)).meets(3, far(9, 9))
	was := s.told()
	newRefused(t, nil, s.p)
	newRefused(t, s.h, nil)
	newRefused(t, nil, nil)
	if now := s.told(); now != was {
		t.Errorf("R3: a New that is refused turned\n%s\ninto\n%s", was, now)
	}
}

// several answers a side with several rows, for bounds below 8, and fewer above
// that.
func several(t *testing.T) side {
	t.Helper()
	return sideOf(t, 0,
		held(5, 8, own(2), far(9, 1), own(3)),
		held(0, 9, own(4), own(1)),
		held(1, 1, far(2, 2)),
		held(4, 8, far(5, 5), own(2), own(6)),
		held(7, bare, own(1)),
		held(0, 8, far(5, 6)),
	).meets(8, far(9, 1), far(2, 2), far(5, 5), far(5, 6))
}

// A new reacher is as one behind Begin(0): it has no rows, its place is 0, and
// what has a rank above 0 is suspect, what has the rank 0 is not.
func TestNewIsAsBehindBegin(t *testing.T) {
	s := sideOf(t, 0, held(1, 1, far(2, 1), far(2, 2)), held(1, 0, far(2, 1)), held(1, bare)).meets(1, far(2, 1)).meets(0, far(2, 2))
	was := s.told()
	r, e := reach.New(s.h, s.p)
	if r == nil || e != api.OK {
		t.Fatalf("14.1: New answered %v, %d", r, e)
	}
	if now := s.told(); now != was {
		t.Errorf("14.1: New turned\n%s\ninto\n%s", was, now)
	}
	shows(t, r, "of a new one", "")
	walks(t, r, "", "", "", "", "1:2.1")
	ends(t, r, "1:2.1")

	for _, s := range []side{sideOf(t, 0), sideOf(t, 7), several(t)} {
		r, e := reach.New(s.h, s.p)
		if r == nil || e != api.OK {
			t.Fatalf("14.1: New answered %v, %d", r, e)
		}
		w := &twin{side: s, r: r}
		w.holds(t)
		w.ends(t)
	}
}

// What was told of a reacher's steps is not seen in a new one of the same heap
// and paint.
func TestNewBehindAnother(t *testing.T) {
	for k := range 24 {
		w := twinOf(t, 3, several(t))
		for range k {
			w.step(t)
		}
		w = twinOf(t, 3, w.side)
		w.holds(t)
		w.ends(t)
	}
}

// Of nothing there is nothing, whatever the bound is.
func TestNothingInTheHeap(t *testing.T) {
	s := sideOf(t, 0).meets(9, far(2, 1))
	r := s.reacher(t, 0)
	ends(t, r, "")
	for _, bound := range []int{math.MinInt, -1, 0, 1, maxDist, math.MaxInt} {
		r.Begin(bound)
		ends(t, r, "")
	}
}

// Begin at each point there is, to the end and behind it, with the same bound
// and with others: there are no rows, none is under way, the place is 0, and
// neither the heap nor the paint is another one.
func TestBeginAtEveryPoint(t *testing.T) {
	points := 2 + twinOf(t, 3, several(t)).ends(t)
	for k := range points {
		for _, bound := range []int{3, 0, 7, 8, 9, -1} {
			w := twinOf(t, 3, several(t))
			for range k {
				w.step(t)
			}
			was := w.told()
			w.begin(bound)
			if now := w.told(); now != was {
				t.Fatalf("14.1: behind %d Steps, Begin turned\n%s\ninto\n%s", k, was, now)
			}
			shows(t, w.r, "behind Begin", "")
			w.ends(t)
		}
	}
}

// Told without a twin: a Begin while objects wait, while a row is under way of
// which none wait, and behind its end.
func TestBeginLeavesNoRow(t *testing.T) {
	for k := range 7 {
		s := sideOf(t, 0, held(5, 5, own(2), far(2, 7)), held(0, 5, own(1)), held(0, bare)).meets(5, far(2, 7))
		r := s.reacher(t, 3)
		for range k {
			r.Step()
		}
		r.Begin(5)
		shows(t, r, "behind Begin", "")
		walks(t, r, "", "", "")
		ends(t, r, "")
		r.Begin(4)
		walks(t, r, "", "", "", "", "", "1:2.7")
		ends(t, r, "1:2.7")
	}
}

// Begin again and again is as one Begin.
func TestBeginManyTimes(t *testing.T) {
	w := twinOf(t, 8, several(t))
	for range 3 {
		w.begin(1)
		w.begin(3)
		w.holds(t)
	}
	w.ends(t)
}

// Begin lets what was gone by be met with the In, the marks and the references
// that it has now.
func TestBeginMeetsWhatIsNow(t *testing.T) {
	s := sideOf(t, 0, held(0, 5, far(2, 7)), held(2, 1, far(2, 8))).meets(9, far(2, 7), far(2, 8))
	r := s.reacher(t, 3)
	runs(t, r)
	s.h.SetIn(1, 6)
	s.remark(2, 7)
	ends(t, r, "")
	r.Begin(3)
	runs(t, r)
	shows(t, r, "behind Begin", "1:2.7 2:2.8")
}

// An object is suspect just if it is marked with a rank above the bound: at
// each rank, with each bound, also such that are no rank.
func TestWhichObjectsAreSuspect(t *testing.T) {
	bounds := []int{math.MinInt, -1000, math.MaxInt32, math.MaxInt}
	for bound := -2; bound <= maxDist+2; bound++ {
		bounds = append(bounds, bound)
	}
	for rank := 0; rank <= maxDist; rank++ {
		s := sideOf(t, 0, held(1, rank), held(1, bare), held(0, rank)).meets(maxDist, far(2, 7))
		r := s.reacher(t, 0)
		for _, bound := range bounds {
			want := ""
			if rank > bound {
				want = "1:"
			}
			r.Begin(bound)
			runs(t, r)
			if got := drawn(r.Rows()); got != want {
				t.Fatalf("14.1: at the rank %d with the bound %d, Rows is %q, not %q", rank, bound, got, want)
			}
		}
	}
}

// A remote ID is suspect just if it was met with a rank above the bound; one
// that was not met never. What its holder is marked with does not matter.
func TestWhichRemoteIDsAreSuspect(t *testing.T) {
	for rank := 0; rank <= maxDist; rank++ {
		s := sideOf(t, 0, held(1, maxDist, far(2, 7), far(2, 8), far(4, 7))).meets(rank, far(2, 7))
		r := s.reacher(t, 0)
		for bound := -1; bound < maxDist; bound++ {
			want := "1:"
			if rank > bound {
				want = "1:2.7"
			}
			r.Begin(bound)
			runs(t, r)
			if got := drawn(r.Rows()); got != want {
				t.Fatalf("14.1: met with %d, with the bound %d, Rows is %q, not %q", rank, bound, got, want)
			}
		}
	}
}

// One that is Blackened has the rank 0; one that is not marked is not suspect
// even with a bound below all ranks.
func TestBlackenedAndBare(t *testing.T) {
	s := sideOf(t, 0, held(1, bare, far(2, 7)), held(1, bare, own(1), own(3)), held(0, bare, far(2, 8))).meets(0, far(2, 7), far(2, 8))
	s.p.Blacken(2)
	s.p.Blacken(3)
	r := s.reacher(t, 0)
	walks(t, r, "", "", "")
	ends(t, r, "")
	r.Begin(-1)
	walks(t, r, "", "", "", "", "", "2:2.8")
	ends(t, r, "2:2.8")
}

// Whether it is grey does not matter.
func TestGreyOrNot(t *testing.T) {
	s := sideOf(t, 0, held(1, 5, own(2)), held(0, 5, far(2, 7))).meets(5, far(2, 7))
	r := s.reacher(t, 3)
	runs(t, r)
	shows(t, r, "with all grey", "1:2.7")
	s.p.Scan(1)
	s.p.Scan(2)
	r.Begin(3)
	runs(t, r)
	shows(t, r, "with none grey", "1:2.7")
}

// The heap and the paint are as they were, whatever the reacher does.
func TestTheReacherLeavesTheHeapAndThePaint(t *testing.T) {
	s := several(t)
	was := s.told()
	for _, bound := range []int{-1, 0, 3, 8, 40} {
		r := s.reacher(t, bound)
		for range 60 {
			r.Step()
			r.Rows()
			if now := s.told(); now != was {
				t.Fatalf("14: a reacher turned\n%s\ninto\n%s", was, now)
			}
		}
	}
}
