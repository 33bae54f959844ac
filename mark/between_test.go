package mark_test

import (
	"fmt"
	"testing"
)

// What is made above the place is met; its In counts as it is when the place
// comes to it.
func TestMadeBetweenTwoSteps(t *testing.T) {
	s := sideOf(t, 4, 0, held(1), held(2))
	m := s.marker(t)
	s.walks(t, m, "1g . 1", "1 . 0")
	s.add(t, held(0, 1))
	s.add(t, held(4, 3))
	s.walks(t, m, "1 2g . . 1", "1 2 . . 0", "1 2 . . 0", "1 2 . 4g 1", "1 2 4g 4 1", "1 2 4 4 0")
	s.ends(t, m)
}

// What is freed ahead of the place is not met; the place itself may go, and what
// lies above it is met all the same.
func TestFreedBetweenTwoSteps(t *testing.T) {
	s := sideOf(t, 4, 0, held(1), held(2), held(3), held(4))
	m := s.marker(t)
	s.walks(t, m, "1g . . . 1")
	s.h.Free(1)
	s.h.Free(3)
	s.walks(t, m, "x . x . 0", "x 2g x . 1")
	s.h.Free(2)
	s.walks(t, m, "x x x . 0", "x x x 4g 1", "x x x 4 0")
	s.h.Free(4)
	s.ends(t, m)
}

// What is freed while the pass is there is gone by; the pass goes on above it.
func TestFreedWithinAPass(t *testing.T) {
	s := greyBeside(t, 1, held(0), held(0), held(0), held(0))
	m := s.marker(t)
	s.walks(t, m, "5g 5g 5g 5g 0", "5 5g 5g 5g 0", "5 5 5g 5g 0")
	s.h.Free(2)
	s.h.Free(3)
	s.walks(t, m, "5 x x 5 0", "5 x x 5 0", "5 x x 5 0")
	s.ends(t, m)
}

// A reference to what was freed leads to no object.
func TestAReferenceToWhatWasFreed(t *testing.T) {
	s := sideOf(t, 4, 0, held(3, 2, 3), held(0, 3), held(0))
	m := s.marker(t)
	s.h.Free(2)
	s.walks(t, m, "3g x . 1", "3 x 3g 1", "3 x 3 0", "3 x 3 0")
	s.ends(t, m)
}

// What somebody Shades between two Steps stands on top of the stack, and is
// gone through first.
func TestShadedBetweenTwoSteps(t *testing.T) {
	s := sideOf(t, 4, 0, held(5, 2), held(0), held(0, 1))
	m := s.marker(t)
	s.walks(t, m, "5g . . 1", "5 5g . 1")
	s.p.Shade(own(3), 0)
	s.walks(t, m, "0g 5g 0 2", "0 0g 0 1", "0 0 0 0", "0 0 0 0", "0 0 0 0")
	s.ends(t, m)
}

// What is Shaded again while it is grey stands on the stack once.
func TestShadedAgainBetweenTwoSteps(t *testing.T) {
	s := sideOf(t, 4, 0, held(5, 2), held(0))
	m := s.marker(t)
	s.walks(t, m, "5g . 1")
	s.p.Shade(own(1), 3)
	s.p.Shade(own(1), 4)
	s.shows(t, "Shaded again", "3g . 1")
	s.walks(t, m, "3 3g 1", "3 3 0", "3 3 0")
	s.ends(t, m)
}

// What somebody Shades with a lesser rank behind its Scan is gone through
// again, and all that it leads to.
func TestShadedBehindItsScan(t *testing.T) {
	s := sideOf(t, 4, 0, held(5, 2), held(0))
	m := s.marker(t)
	runs(t, m)
	s.p.Shade(own(1), 5)
	s.ends(t, m)
	s.p.Shade(own(1), 1)
	s.walks(t, m, "1 1g 1", "1 1 0")
	s.ends(t, m)
}

// What is Blackened is marked with 0: its In does not turn that, and its
// references are not gone through.
func TestBlackenedBetweenTwoSteps(t *testing.T) {
	s := sideOf(t, 4, 0, held(5, 2), held(3, 3), held(0))
	m := s.marker(t)
	s.walks(t, m, "5g . . 1")
	s.p.Blacken(2)
	s.p.Blacken(1)
	s.walks(t, m, "5 0 . 0", "5 0 . 0", "5 0 . 0")
	s.ends(t, m)
}

// What is Forgotten while it waits takes its Step, and is not Scanned; the place
// Shades it, if it comes to it later.
func TestForgottenBetweenTwoSteps(t *testing.T) {
	s := sideOf(t, 4, 0, held(5, 3), held(2, 3), held(0))
	m := s.marker(t)
	s.p.Shade(own(2), 4)
	s.walks(t, m, ". 4 4g 1", ". 4 4 0", "5g 4 4 1")
	s.p.Forget(1)
	s.p.Forget(2)
	s.walks(t, m, ". . 4 0", ". 2g 4 1", ". 2 2g 1", ". 2 2 0", ". 2 2 0")
	s.ends(t, m)
}

// One that was Forgotten, and Shaded anew, stands on the stack twice: the lower
// one takes a Step without a Scan.
func TestForgottenAndShadedAnew(t *testing.T) {
	s := sideOf(t, 4, 0, held(0, 2), held(0))
	m := s.marker(t)
	s.p.Shade(own(1), 4)
	s.p.Forget(1)
	s.p.Shade(own(1), 6)
	s.shows(t, "ahead of all", "6g . 2")
	s.walks(t, m, "6 6g 2", "6 6 1", "6 6 0", "6 6 0", "6 6 0")
	s.ends(t, m)
}

// A reference that is written ahead of the Scan is gone through, one behind it
// is not.
func TestWrittenBetweenTwoSteps(t *testing.T) {
	s := sideOf(t, 4, 0, held(5, 2), held(0), held(0), held(0))
	m := s.marker(t)
	s.walks(t, m, "5g . . . 1")
	s.h.SetRef(1, 0, own(3))
	s.walks(t, m, "5 . 5g . 1")
	s.h.SetRef(1, 0, own(4))
	s.walks(t, m, "5 . 5 . 0", "5 . 5 . 0", "5 . 5 . 0", "5 . 5 . 0")
	s.ends(t, m)
}

// An In that is set ahead of the place counts, one behind it does not.
func TestInSetBetweenTwoSteps(t *testing.T) {
	s := sideOf(t, 4, 0, held(0), held(0), held(7))
	m := s.marker(t)
	s.walks(t, m, ". . . 0")
	s.h.SetIn(1, 2)
	s.h.SetIn(2, 3)
	s.h.SetIn(3, 0)
	s.walks(t, m, ". 3g . 1", ". 3 . 0", ". 3 . 0")
	s.ends(t, m)
}

// Somebody else Rests: no pass comes of it. One Turn: a pass that is under way
// goes on, and finds nothing grey.
func TestRestedOrTurnedBySomebodyElse(t *testing.T) {
	s := greyBeside(t, 1, held(0), held(0))
	s.p.Rest()
	m := s.marker(t)
	s.walks(t, m, "5g 5g 0", "5g 5g 0")
	s.ends(t, m)

	s = greyBeside(t, 1, held(1), held(0))
	m = s.marker(t)
	s.walks(t, m, "5g 5g 0", "5 5g 0")
	s.p.Turn()
	s.walks(t, m, ". . 0", "1g . 1", "1 . 0", "1 . 0")
	s.ends(t, m)
}

// change is something that somebody else does between two Steps.
type change struct {
	name string
	do   func(s side)
}

// changes are such of every kind.
func changes(t *testing.T) []change {
	return []change{
		{"make", func(s side) { s.add(t, held(2, 1, 3)) }},
		{"make without an In", func(s side) { s.add(t, held(0, 2)) }},
		{"free 1", func(s side) { s.h.Free(1) }},
		{"free 2", func(s side) { s.h.Free(2) }},
		{"free 4", func(s side) { s.h.Free(4) }},
		{"free all", func(s side) {
			for serial := uint64(1); serial <= s.h.Last(); serial++ {
				s.h.Free(serial)
			}
		}},
		{"shade 1", func(s side) { s.p.Shade(own(1), 0) }},
		{"shade 3", func(s side) { s.p.Shade(own(3), 1) }},
		{"shade 2 and 4", func(s side) { s.p.Shade(own(2), 1); s.p.Shade(own(4), 1) }},
		{"shade a remote one", func(s side) { s.p.Shade(far(2, 2), 1) }},
		{"blacken 2", func(s side) { s.p.Blacken(2) }},
		{"blacken 4", func(s side) { s.p.Blacken(4) }},
		{"forget 1", func(s side) { s.p.Forget(1) }},
		{"forget 3", func(s side) { s.p.Forget(3) }},
		{"scan 3", func(s side) { s.p.Scan(3) }},
		{"pop", func(s side) { s.p.Pop() }},
		{"rest", func(s side) { s.p.Rest() }},
		{"turn", func(s side) { s.p.Turn() }},
		{"write", func(s side) { s.h.SetRef(2, 0, own(1)) }},
		{"set an In", func(s side) { s.h.SetIn(3, 1) }},
		{"set an In to 0", func(s side) { s.h.SetIn(1, 0) }},
	}
}

// Each two changes: the first of them at each point, the second one a few Steps
// behind it; with room for one, two and more.
func TestEveryTwoChanges(t *testing.T) {
	things := []thing{held(3, 2, 4, 3), held(0, 3), held(4, 1), held(2, 2)}
	for _, most := range []int{1, 2, maxGrey} {
		points := 1 + twinOf(t, most, 0, things...).ends(t)
		for first := range points {
			for _, one := range changes(t) {
				for n, two := range changes(t) {
					w := twinOf(t, most, 0, things...)
					w.changes(t, first, one)
					w.changes(t, (first+n)%5, two)
					w.ends(t)
				}
			}
		}
	}
}

// changes does a change behind so many Steps.
func (w *twin) changes(t *testing.T, steps int, c change) {
	t.Helper()
	for range steps {
		w.step(t)
	}
	w.both(c.do)
	w.after = append(w.after, fmt.Sprint(steps, " Steps, ", c.name))
}
