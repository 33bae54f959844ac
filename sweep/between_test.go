package sweep_test

import (
	"fmt"
	"testing"
)

// What is freed by somebody else ahead of the place is not met, and not told;
// the place itself may go, and what lies above it is met all the same.
func TestFreedBetweenTwoSteps(t *testing.T) {
	s := sideOf(t, 0, dark(1), bare(), dark(3), bare(), bare())
	x := s.sweeper(t)
	s.walks(t, x, "0: 1 . 3 . .")
	s.h.Free(1)
	s.h.Free(2)
	s.h.Free(4)
	s.walks(t, x, "0: x x 3 x .", "5: x x 3 x x")
	s.h.Free(3)
	s.ends(t, x)

	s = sideOf(t, 0, bare(), bare())
	x = s.sweeper(t)
	s.h.Free(1)
	s.h.Free(2)
	s.ends(t, x)
}

// What is marked ahead of the place stays, with whatever rank, grey or not;
// behind it, what was freed stays so.
func TestMarkedBetweenTwoSteps(t *testing.T) {
	s := sideOf(t, 0, bare(), bare(), bare(), bare(), bare())
	x := s.sweeper(t)
	s.walks(t, x, "1: x . . . .")
	s.p.Shade(own(1), 2)
	s.p.Shade(own(2), 7)
	s.p.Blacken(4)
	s.walks(t, x, "0: x 7g . 0 .")
	s.p.Scan(2)
	s.p.Shade(own(3), 0)
	s.walks(t, x, "0: x 7 0g 0 .", "0: x 7 0g 0 .", "5: x 7 0g 0 x")
	s.ends(t, x)
}

// What is marked no more ahead of the place goes; behind it, it stays till the
// next Begin.
func TestForgottenBetweenTwoSteps(t *testing.T) {
	s := sideOf(t, 0, dark(1), dark(2), light(3), dark(4))
	x := s.sweeper(t)
	s.walks(t, x, "0: 1 2 3g 4")
	s.p.Forget(1)
	s.p.Forget(3)
	s.walks(t, x, "0: . 2 . 4", "3: . 2 x 4", "0: . 2 x 4")
	s.ends(t, x)
	x.Begin()
	s.walks(t, x, "1: x 2 x 4", "0: x 2 x 4", "0: x 2 x 4")
	s.ends(t, x)
}

// Behind a Turn nothing is marked: all that is ahead of the place goes.
func TestTurnedBetweenTwoSteps(t *testing.T) {
	s := sideOf(t, 0, dark(1), light(2), dark(3))
	x := s.sweeper(t)
	s.walks(t, x, "0: 1 2g 3")
	s.p.Turn()
	s.walks(t, x, "2: . x .", "3: . x x")
	s.ends(t, x)
}

// What is made between two Steps is not met, at whatever point, also where what
// was there is gone.
func TestMadeBetweenTwoSteps(t *testing.T) {
	s := sideOf(t, 0, bare(), dark(2))
	x := s.sweeper(t)
	s.add(t, bare())
	s.walks(t, x, "1: x 2 .")
	s.add(t, dark(4))
	s.h.Free(2)
	s.ends(t, x)
	s.add(t, bare())
	s.ends(t, x)
	s.shows(t, "at the end", "x x . 4 .")
	x.Begin()
	s.walks(t, x, "3: x x x 4 .", "0: x x x 4 .", "5: x x x 4 x")
	s.ends(t, x)
}

// A reference, a number or an In that is written between two Steps does not
// matter.
func TestWrittenBetweenTwoSteps(t *testing.T) {
	s := sideOf(t, 0, dark(1, none), bare(none), bare())
	x := s.sweeper(t)
	s.walks(t, x, "0: 1 . .")
	s.h.SetRef(1, 0, own(3))
	s.h.SetRef(2, 0, own(2))
	s.h.SetIn(2, 1)
	s.h.SetVal(3, 0, 5)
	s.walks(t, x, "2: 1 x .", "3: 1 x x")
	s.ends(t, x)
}

// change is something that somebody else does between two Steps.
type change struct {
	name string
	do   func(w *twin)
}

// changes are such of every kind.
func changes(t *testing.T) []change {
	l := []change{
		{"make", func(w *twin) { w.both(func(s side) { s.add(t, bare(own(1))) }) }},
		{"make and mark", func(w *twin) { w.both(func(s side) { s.add(t, light(2)) }) }},
		{"shade a remote one", func(w *twin) { w.both(func(s side) { s.p.Shade(far(2, 2), 1) }) }},
		{"pop", func(w *twin) { w.both(func(s side) { s.p.Pop() }) }},
		{"turn", func(w *twin) { w.both(func(s side) { s.p.Turn() }) }},
		{"begin", func(w *twin) { w.begin() }},
	}
	for serial := uint64(1); serial <= 5; serial++ {
		each := func(name string, do func(s side)) {
			l = append(l, change{fmt.Sprint(name, " ", serial), func(w *twin) { w.both(do) }})
		}
		each("free", func(s side) { s.h.Free(serial) })
		each("shade", func(s side) { s.p.Shade(own(serial), 3) })
		each("blacken", func(s side) { s.p.Blacken(serial) })
		each("forget", func(s side) { s.p.Forget(serial) })
		each("scan", func(s side) { s.p.Scan(serial) })
		each("set an In of", func(s side) { s.h.SetIn(serial, 1) })
	}
	return l
}

// Each two changes: the first of them at each point, the second one a few Steps
// behind it.
func TestEveryTwoChanges(t *testing.T) {
	things := []thing{bare(own(3)), light(4, own(1)), bare(), dark(2, own(2), own(3))}
	points := 2 + twinOf(t, 0, things...).ends(t)
	for first := range points {
		for _, one := range changes(t) {
			for n, two := range changes(t) {
				w := twinOf(t, 0, things...)
				w.changes(t, first, one)
				w.changes(t, n%3, two)
				w.ends(t)
				w.begin()
				w.ends(t)
				w.drains(t)
			}
		}
	}
}

// changes does a change behind so many Steps.
func (w *twin) changes(t *testing.T, steps int, c change) {
	t.Helper()
	for range steps {
		w.step(t)
	}
	c.do(w)
	w.after = append(w.after, fmt.Sprint(steps, " Steps, ", c.name))
	w.holds(t)
}
