package reach_test

import (
	"fmt"
	"testing"
)

// What is made above the place is met, also behind the end; it begins a row as
// it is when the place comes to it.
func TestMadeBetweenTwoSteps(t *testing.T) {
	s := sideOf(t, 0, held(1, 5, far(2, 7)), held(0, 5)).meets(9, far(2, 7))
	r := s.reacher(t, 3)
	walks(t, r, "", "", "")
	s.add(t, held(0, 5))
	s.add(t, held(4, bare))
	s.add(t, held(4, 5, own(1)))
	s.h.SetIn(3, 2)
	walks(t, r, "1:2.7", "1:2.7", "1:2.7")
	walks(t, r, "1:2.7 3:", "1:2.7 3:", "1:2.7 3:", "1:2.7 3: 5:2.7")
	ends(t, r, "1:2.7 3: 5:2.7")
	s.add(t, held(0, 5))
	walks(t, r, "1:2.7 3: 5:2.7")
	ends(t, r, "1:2.7 3: 5:2.7")
}

// What is made while a row is under way, and none waits, is the place ahead of
// the row's end.
func TestMadeAheadOfTheEndOfARow(t *testing.T) {
	s := sideOf(t, 0, held(1, 5))
	r := s.reacher(t, 3)
	walks(t, r, "", "")
	s.add(t, held(0, bare))
	walks(t, r, "")
	s.add(t, held(1, 5))
	walks(t, r, "1:", "1:", "1: 3:")
	ends(t, r, "1: 3:")
}

// What is made, and referred to, while objects wait is in the row, if it is
// suspect when the reference is gone through.
func TestMadeAndReferredTo(t *testing.T) {
	s := sideOf(t, 0, held(1, 5, to(2)...), held(0, 5, none, none)).meets(9, far(2, 7))
	r := s.reacher(t, 3)
	walks(t, r, "", "")
	s.add(t, held(0, 5, far(2, 7)))
	s.add(t, held(0, bare, far(2, 7)))
	s.h.SetRef(2, 0, own(4))
	s.h.SetRef(2, 1, own(3))
	walks(t, r, "", "", "", "", "", "1:2.7")
	ends(t, r, "1:2.7")
}

// What is freed ahead of the place is not met; the place itself may go, and what
// lies above it is met all the same.
func TestFreedBetweenTwoSteps(t *testing.T) {
	s := sideOf(t, 0, held(1, 5, far(2, 7)), held(1, 5), held(1, 5), held(1, 5, to(1)...)).meets(9, far(2, 7))
	r := s.reacher(t, 3)
	walks(t, r, "", "")
	s.h.Free(1)
	s.h.Free(3)
	walks(t, r, "1:2.7", "1:2.7")
	s.h.Free(2)
	walks(t, r, "1:2.7 2:", "1:2.7 2:")
	s.h.Free(4)
	walks(t, r, "1:2.7 2: 4:")
	ends(t, r, "1:2.7 2: 4:")
}

// One that is freed while it waits takes its Step, and has no references; the
// others that wait are gone through all the same.
func TestFreedWhileItWaits(t *testing.T) {
	s := sideOf(t, 0, held(1, 5, to(2, 3, 4)...), held(0, 5, far(2, 2)), held(0, 5, far(2, 3), own(5)), held(0, 5, far(2, 4)), held(0, 5, far(2, 5))).meets(9, far(2, 2), far(2, 3), far(2, 4), far(2, 5))
	r := s.reacher(t, 3)
	walks(t, r, "", "")
	s.h.Free(3)
	s.h.Free(4)
	walks(t, r, "", "", "") // 4, 3, 2 are taken off
	walks(t, r, "", "")     // past 2 and 5
	walks(t, r, "1:2.2")
	ends(t, r, "1:2.2")
}

// The one that the row began with may be freed while it waits, and is its In
// still.
func TestFreedWhatTheRowBeganWith(t *testing.T) {
	s := sideOf(t, 0, held(1, 5, far(2, 7)), held(1, 5, far(2, 7))).meets(9, far(2, 7))
	r := s.reacher(t, 3)
	walks(t, r, "")
	s.h.Free(1)
	walks(t, r, "", "1:", "1:", "1: 2:2.7")
	ends(t, r, "1: 2:2.7")
}

// One that waits is gone through though it is suspect no more, nor marked.
func TestSuspectNoMoreWhileItWaits(t *testing.T) {
	for _, rank := range []int{bare, 0, 3, 9} {
		s := sideOf(t, 0, held(1, 5, to(2)...), held(0, 5, far(2, 7), own(3)), held(0, 5, far(2, 8))).meets(9, far(2, 7), far(2, 8))
		r := s.reacher(t, 3)
		walks(t, r, "", "")
		s.remark(2, rank)
		walks(t, r, "", "", "", "", "1:2.7,2.8")
		ends(t, r, "1:2.7,2.8")
	}
}

// What is marked, or met, as suspect behind the reference that led to it is not
// in the row; ahead of it, it is.
func TestMarkedAndMetBetweenTwoSteps(t *testing.T) {
	build := func() side {
		return sideOf(t, 0, held(1, 5, own(2), far(2, 7)), held(0, bare, far(2, 8))).meets(9, far(2, 8))
	}
	s := build()
	r := s.reacher(t, 3)
	walks(t, r, "")
	s.p.Shade(own(2), 5)
	s.p.Shade(far(2, 7), 4)
	walks(t, r, "", "", "", "1:2.7,2.8")
	ends(t, r, "1:2.7,2.8")

	s = build()
	r = s.reacher(t, 3)
	walks(t, r, "", "")
	s.p.Shade(own(2), 5)
	s.p.Shade(far(2, 7), 4)
	walks(t, r, "", "1:")
	ends(t, r, "1:")
}

// What is Shaded with a rank of at most the bound between two Steps is suspect
// no more for what comes behind it; what is in the row stays.
func TestRanksThatFallBetweenTwoSteps(t *testing.T) {
	s := sideOf(t, 0, held(1, 5, own(2), far(2, 7)), held(0, 5, own(3), far(2, 8)), held(0, 5), held(1, 5, far(2, 7))).meets(9, far(2, 7), far(2, 8))
	r := s.reacher(t, 3)
	walks(t, r, "", "")
	s.p.Shade(own(3), 3)
	s.p.Shade(far(2, 7), 0)
	s.p.Shade(far(2, 8), 1)
	walks(t, r, "")
	walks(t, r, "", "") // past 2 and 3
	walks(t, r, "1:2.7", "1:2.7", "1:2.7 4:")
	ends(t, r, "1:2.7 4:")
}

// A Turn between two Steps: nothing is suspect any more, but what waits is gone
// through, and what the row has it keeps.
func TestTurnedBetweenTwoSteps(t *testing.T) {
	s := sideOf(t, 0, held(1, 5, own(2), far(2, 7)), held(1, 5, far(2, 8), own(3)), held(1, 5)).meets(9, far(2, 7), far(2, 8))
	r := s.reacher(t, 3)
	walks(t, r, "", "")
	s.p.Turn()
	walks(t, r, "", "", "", "1:2.7")
	ends(t, r, "1:2.7")
}

// An In counts as it is when the place comes to the object.
func TestInSetBetweenTwoSteps(t *testing.T) {
	s := sideOf(t, 0, held(1, 5), held(0, 5), held(7, 5))
	r := s.reacher(t, 3)
	walks(t, r, "")
	s.h.SetIn(1, 0)
	s.h.SetIn(2, 3)
	s.h.SetIn(3, 0)
	walks(t, r, "", "1:", "1:", "1:", "1: 2:")
	s.h.SetIn(3, 1)
	s.h.SetIn(1, 1)
	ends(t, r, "1: 2:")
}

// A reference that is written ahead of its object's Step is gone through, one
// behind it is not.
func TestWrittenBetweenTwoSteps(t *testing.T) {
	s := sideOf(t, 0, held(1, 5, own(2), far(2, 7)), held(0, 5, far(2, 2)), held(0, 5, far(2, 3)), held(0, 5, far(2, 4))).meets(9, far(2, 2), far(2, 3), far(2, 4), far(2, 7), far(2, 8))
	r := s.reacher(t, 3)
	walks(t, r, "")
	s.h.SetRef(1, 0, own(3))
	s.h.SetRef(1, 1, far(2, 8))
	walks(t, r, "")
	s.h.SetRef(1, 0, own(4))
	s.h.SetRef(1, 1, far(2, 7))
	walks(t, r, "", "", "", "", "1:2.3,2.8")
	ends(t, r, "1:2.3,2.8")
}

// change is something that somebody else does between two Steps.
type change struct {
	name string
	do   func(s side)
}

// changes are such of every kind.
func changes(t *testing.T) []change {
	return []change{
		{"make", func(s side) { s.add(t, held(2, 5, own(1), far(2, 7))) }},
		{"make without an In", func(s side) { s.h.SetRef(3, 0, own(s.add(t, held(0, 5, far(2, 9))))) }},
		{"free 1", func(s side) { s.h.Free(1) }},
		{"free 2", func(s side) { s.h.Free(2) }},
		{"free 4", func(s side) { s.h.Free(4) }},
		{"free all", func(s side) {
			for serial := uint64(1); serial <= s.h.Last(); serial++ {
				s.h.Free(serial)
			}
		}},
		{"shade 2", func(s side) { s.p.Shade(own(2), 1) }},
		{"shade 5", func(s side) { s.p.Shade(own(5), 4) }},
		{"meet", func(s side) { s.p.Shade(far(2, 9), 5) }},
		{"meet with less", func(s side) { s.p.Shade(far(2, 7), 3) }},
		{"blacken 5", func(s side) { s.p.Blacken(5) }},
		{"forget 1", func(s side) { s.p.Forget(1) }},
		{"forget 3", func(s side) { s.p.Forget(3) }},
		{"scan 1", func(s side) { s.p.Scan(1) }},
		{"scan 4", func(s side) { s.p.Scan(4) }},
		{"turn", func(s side) { s.p.Turn() }},
		{"write", func(s side) { s.h.SetRef(2, 0, own(5)) }},
		{"write a remote one", func(s side) { s.h.SetRef(4, 1, far(2, 8)) }},
		{"set an In", func(s side) { s.h.SetIn(2, 1) }},
		{"set an In to 0", func(s side) { s.h.SetIn(4, 0) }},
	}
}

// Each two changes: the first of them at each point, the second one a few Steps
// behind it; with a bound that all but one are above, and with others.
func TestEveryTwoChanges(t *testing.T) {
	things := []thing{
		held(3, 5, own(2), own(4), far(2, 8)),
		held(0, 6, own(3)),
		held(4, 5, own(1), far(2, 9)),
		held(2, 7, own(5), far(2, 7)),
		held(1, bare, own(3), far(2, 7)),
	}
	build := func(bound int) *twin {
		return twinOf(t, bound, sideOf(t, 0, things...).meets(6, far(2, 7), far(2, 8)))
	}
	for _, bound := range []int{3, 5, -1} {
		points := 1 + build(bound).ends(t)
		for first := range points {
			for _, one := range changes(t) {
				for n, two := range changes(t) {
					w := build(bound)
					w.changes(t, first, one)
					w.changes(t, (first+n)%5, two)
					w.ends(t)
				}
			}
		}
	}
}

// changes does a change behind so many Steps.
func (w *twin) changes(t *testing.T, steps int, c change) {
	t.Helper()
	for range steps {
		w.step(t)
	}
	c.do(w.side)
	w.after = append(w.after, fmt.Sprint(steps, " Steps, ", c.name))
}

// A reacher of a heap and of another one's paint ends, and does not panic.
func TestAPaintOfAnotherHeap(t *testing.T) {
	a, b := several(t), sideOf(t, 2, held(1, 9, to(1)...), held(2, 8, far(5, 5)), held(1, 9))
	for _, s := range []side{{a.h, b.p, 0}, {b.h, a.p, 2}} {
		r := s.reacher(t, 0)
		runs(t, r)
		if r.Step() {
			t.Error("14.2: behind a false, Step answered true")
		}
	}
}
