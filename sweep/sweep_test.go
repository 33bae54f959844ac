package sweep_test

import (
	"testing"

	"mooring/api"
	"mooring/heap"
	"mooring/paint"
	"mooring/sweep"
)

func TestTheChaptersExample(t *testing.T) {
	s := sideOf(t, 0, dark(0), bare())
	x := s.sweeper(t)
	x.Begin()
	s.add(t, bare())
	for i, want := range []struct {
		serial uint64
		ok     bool
	}{{0, true}, {2, true}, {0, false}} {
		if serial, ok := x.Step(); serial != want.serial || ok != want.ok {
			t.Errorf("15.1: Step %d answered %d, %v, not %v", i+1, serial, ok, want)
		}
	}
	s.shows(t, "at the end", "0 x .")
}

// The error and the limits are numbers that the document names.
func TestTheNumbers(t *testing.T) {
	if api.OK != 0 || api.ErrArg != 1 || api.MaxDist != maxDist || api.MaxGrey != maxGrey || api.MaxNodes != maxNodes || api.MaxObjects != maxObjects || api.MaxFields != maxFields || api.MaxCells != maxCells || api.MaxSerial != maxSerial {
		t.Error("15: the error, or the limits, are other numbers")
	}
}

// newRefused is a New that must answer ErrArg.
func newRefused(t *testing.T, h *heap.Heap, p *paint.Paint) {
	t.Helper()
	if x, e := sweep.New(h, p); x != nil || e != api.ErrArg {
		t.Errorf("15.1: New(%v, %v) answered %v, %d", h != nil, p != nil, x, e)
	}
}

func TestNewWithoutAHeapOrAPaint(t *testing.T) {
	s := sideOf(t, 0, light(2, own(1)), bare())
	was := s.told()
	newRefused(t, nil, s.p)
	newRefused(t, s.h, nil)
	newRefused(t, nil, nil)
	if now := s.told(); now != was {
		t.Errorf("R3: a New that is refused turned\n%s\ninto\n%s", was, now)
	}
}

// several are objects of all kinds.
func several() []thing {
	return []thing{
		bare(own(2), own(3)).held(3), light(4, own(1), own(3)), bare(far(2, 7)), dark(0, own(5)),
		bare(), dark(maxDist, far(9, 9), none).held(5), bare(own(7)), light(1),
	}
}

// news answers twins of all kinds: with nothing, with some that were freed, with
// what waits on the stack without a mark.
func news(t *testing.T) []*twin {
	t.Helper()
	all := []*twin{twinOf(t, 0), twinOf(t, 7), twinOf(t, 0, bare()), twinOf(t, 0, dark(2)), twinOf(t, 5, several()...)}
	holes := twinOf(t, 0, several()...)
	holes.both(func(s side) {
		for _, serial := range []uint64{1, 4, 8} {
			s.h.Free(serial)
		}
		s.p.Forget(2)
		s.p.Shade(far(2, 2), 3)
	})
	return append(all, holes)
}

// New changes neither the heap nor the paint, and answers a sweeper that is as
// behind Begin: it meets just what is there now.
func TestNewIsAsBehindBegin(t *testing.T) {
	for _, w := range news(t) {
		was := w.a.told()
		w.renews(t)
		if now := w.a.told(); now != was {
			t.Errorf("15.1: New turned\n%s\ninto\n%s", was, now)
		}
		w.both(func(s side) { s.add(t, bare()) })
		w.ends(t)
		w.drains(t)
	}
}

// Told without a twin: what is made behind New is not met, as behind Begin.
func TestNewSetsTheEnd(t *testing.T) {
	s := sideOf(t, 0, bare())
	x := s.sweeper(t)
	s.add(t, bare())
	s.walks(t, x, "1: x .")
	s.ends(t, x)

	s = sideOf(t, 0)
	x = s.sweeper(t)
	s.add(t, bare())
	s.ends(t, x)
	s.shows(t, "with nothing at New", ".")
}

// What was told of a sweeper's steps is not seen in a new one of the same heap
// and paint.
func TestNewBehindAnother(t *testing.T) {
	for k := range 11 {
		w := twinOf(t, 0, several()...)
		for range k {
			w.step(t)
		}
		w.both(func(s side) { s.add(t, bare()) })
		w.renews(t)
		w.ends(t)
	}
}

// Begin at each point there is, to the end and behind it: neither the heap nor
// the paint is another one, and the sweeper goes on from the place 0.
func TestBeginAtEveryPoint(t *testing.T) {
	points := 3 + twinOf(t, 5, several()...).ends(t)
	for k := range points {
		for times := 1; times <= 3; times++ {
			w := twinOf(t, 5, several()...)
			for range k {
				w.step(t)
			}
			was := w.a.told()
			for range times {
				w.begin()
			}
			if now := w.a.told(); now != was {
				t.Fatalf("15.1: behind %d Steps, Begin turned\n%s\ninto\n%s", k, was, now)
			}
			w.ends(t)
			w.drains(t)
		}
	}
}

// Told without a twin: behind Begin, what stayed is met once more, each in its
// Step, and goes if it is marked no more.
func TestBeginLetsThePlaceBeZero(t *testing.T) {
	s := sideOf(t, 0, dark(2), dark(3), dark(4))
	x := s.sweeper(t)
	s.walks(t, x, "0: 2 3 4", "0: 2 3 4")
	s.p.Forget(1)
	x.Begin()
	s.shows(t, "behind Begin", ". 3 4")
	s.walks(t, x, "1: x 3 4", "0: x 3 4", "0: x 3 4")
	s.ends(t, x)
	s.p.Forget(2)
	s.p.Forget(3)
	s.ends(t, x)
	x.Begin()
	s.walks(t, x, "2: x x .", "3: x x x")
	s.ends(t, x)
}

// What is made behind Begin is not met, however it is marked; it is met behind
// the next one. Each number of objects ahead of Begin and behind it.
func TestBeginSetsTheEnd(t *testing.T) {
	for ahead := range 4 {
		for behind := range 4 {
			w := twinOf(t, 0)
			x := w.x
			w.both(func(s side) {
				for range ahead {
					s.add(t, bare())
				}
			})
			w.begin()
			w.both(func(s side) {
				for range behind {
					s.add(t, bare())
				}
			})
			if n := w.ends(t); n != ahead || w.a.h.Len() != behind {
				t.Fatalf("15.1: of %d at Begin, and %d behind it, %d were met, and %d stay", ahead, behind, n, w.a.h.Len())
			}
			w.begin()
			if freed, n := runs(t, x); len(freed) != behind || n != behind || w.a.h.Len() != 0 {
				t.Fatalf("15.1: behind the next Begin, of %d %v were freed in %d Steps", behind, freed, n)
			}
		}
	}
}

// The end is the heap's Last, also where that one is no object any more.
func TestTheEndIsTheHeapsLast(t *testing.T) {
	s := sideOf(t, 0, bare(), bare(), bare())
	s.h.Free(3)
	x := s.sweeper(t)
	s.add(t, bare())
	s.walks(t, x, "1: x . x .", "2: x x x .")
	s.ends(t, x)

	s = sideOf(t, 0, bare())
	s.h.Free(1)
	x = s.sweeper(t)
	s.add(t, bare())
	s.ends(t, x)
	x.Begin()
	s.walks(t, x, "2: x x")
	s.ends(t, x)
}

// Behind a false, what is made is not met: the end stays where it was.
func TestMadeBehindAFalse(t *testing.T) {
	for asked := range 3 {
		s := sideOf(t, 0, bare(), dark(1))
		x := s.sweeper(t)
		runs(t, x)
		for range asked {
			s.ends(t, x)
		}
		s.add(t, bare())
		s.ends(t, x)
		x.Begin()
		s.walks(t, x, "0: x 1 .", "3: x 1 x")
		s.ends(t, x)
	}
}

// A paint of another heap: nothing is promised, but that every call ends and
// none panics.
func TestAPaintOfAnotherHeap(t *testing.T) {
	a, b := sideOf(t, 0, several()...), sideOf(t, 5, several()...)
	for _, s := range []side{{a.h, b.p, a.first}, {b.h, a.p, b.first}} {
		x := s.sweeper(t)
		for range 20 {
			x.Step()
		}
		x.Begin()
		x.Step()
	}
}
