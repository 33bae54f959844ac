package sweep_test

import (
	"testing"

	"mooring/api"
	"mooring/paint"
)

func TestStepOfAnEmptyHeap(t *testing.T) {
	for _, last := range []uint64{0, 1, 9, maxSerial} {
		s := sideOf(t, last)
		x := s.sweeper(t)
		s.ends(t, x)
		x.Begin()
		s.ends(t, x)
	}
}

// Each object takes a Step, in the order of the serials; just those that are
// not marked go, each in its own Step.
func TestStepGoesFromPlaceToPlace(t *testing.T) {
	s := sideOf(t, 0, bare(), dark(5), bare(), bare(), light(0), bare())
	x := s.sweeper(t)
	s.walks(t, x,
		"1: x 5 . . 0g .",
		"0: x 5 . . 0g .",
		"3: x 5 x . 0g .",
		"4: x 5 x x 0g .",
		"0: x 5 x x 0g .",
		"6: x 5 x x 0g x")
	s.ends(t, x)
}

// What was freed ahead of Begin is no object: it takes no Step.
func TestStepGoesPastWhatIsGone(t *testing.T) {
	s := sideOf(t, 0, bare(), bare(), dark(2), bare(), dark(3), bare())
	for _, serial := range []uint64{1, 3, 6} {
		s.h.Free(serial)
	}
	x := s.sweeper(t)
	s.walks(t, x, "2: x x x . 3 x", "4: x x x x 3 x", "0: x x x x 3 x")
	s.ends(t, x)
}

// What is marked stays, with whatever rank, grey or not; its mark stays, and
// all that it is.
func TestStepKeepsWhatIsMarked(t *testing.T) {
	for rank := range maxDist + 1 {
		for _, o := range []thing{dark(rank), light(rank), dark(rank, far(2, 7)).held(3), light(rank, own(1))} {
			s := sideOf(t, 0, o)
			was := s.told()
			x := s.sweeper(t)
			if serial, ok := x.Step(); serial != 0 || !ok {
				t.Fatalf("15.1: of %v, Step answered %d, %v", o, serial, ok)
			}
			if now := s.told(); now != was {
				t.Fatalf("15.1: one that is marked was turned, from\n%s\ninto\n%s", was, now)
			}
			s.ends(t, x)
		}
	}
}

// One that was Blackened is marked, too.
func TestStepKeepsWhatIsBlackened(t *testing.T) {
	s := sideOf(t, 0, bare(), bare())
	x := s.sweeper(t)
	s.p.Blacken(1)
	s.walks(t, x, "0: 0 .", "2: 0 x")
	s.ends(t, x)
}

// What is not marked goes, whatever its In is, and whoever refers to it: the
// sweeper asks for the mark alone.
func TestStepAsksForTheMarkAlone(t *testing.T) {
	s := sideOf(t, 0, light(3, own(2), own(3)).held(1), bare().held(1), bare().held(maxDist), bare(own(4)))
	x := s.sweeper(t)
	s.walks(t, x, "0: 3g . . .", "2: 3g x . .", "3: 3g x x .", "4: 3g x x x")
	s.ends(t, x)
	if o, _ := s.h.Object(1); o.Refs[0] != own(2) || o.Refs[1] != own(3) || o.In != 1 || o.Vals[0] != 1001 {
		t.Errorf("15.1: one that is marked is %v at the end", o)
	}
}

// What was freed is no object for any call of the heap, its cells are free, and
// the paint does not mark it, also when asked to.
func TestStepFrees(t *testing.T) {
	s := sideOf(t, 0, bare(), dark(1))
	used := s.h.Used()
	x := s.sweeper(t)
	s.walks(t, x, "1: x 1")
	if _, ok := s.h.Object(1); ok || s.h.Len() != 1 || s.h.Used() != used/2 || s.h.Last() != 2 {
		t.Errorf("15.1: behind Step, Object(1) answered %v, Len is %d, Used %d, Last %d", ok, s.h.Len(), s.h.Used(), s.h.Last())
	}
	if _, e := s.h.Ref(1, 0); e != api.ErrBadHandle {
		t.Errorf("15.1: Ref answered %d", e)
	}
	if e := s.h.Free(1); e != api.ErrBadHandle {
		t.Errorf("15.1: Free answered %d", e)
	}
	s.p.Shade(own(1), 0)
	s.p.Blacken(1)
	if rank, grey, ok := s.p.Mark(1); rank != 0 || grey || ok {
		t.Errorf("15.1: behind Step, Mark(1) answered %d, %v, %v", rank, grey, ok)
	}
	if s.p.Scan(1) {
		t.Error("15.1: Scan(1) answered true")
	}
}

// The room of what was freed is there again, of objects and of cells.
func TestStepMakesRoom(t *testing.T) {
	s := sideOf(t, 0)
	for range maxObjects {
		s.add(t, bare())
	}
	if _, e := s.h.Make(0, 0); e != api.ErrTableFull {
		t.Fatalf("the test itself: Make answered %d", e)
	}
	x := s.sweeper(t)
	if serial, ok := x.Step(); serial != 1 || !ok {
		t.Fatalf("15.1: Step answered %d, %v", serial, ok)
	}
	if serial, e := s.h.Make(0, 0); serial != maxObjects+1 || e != api.OK {
		t.Errorf("15.1: with one freed, Make answered %d, %d", serial, e)
	}
	if _, e := s.h.Make(0, 0); e != api.ErrTableFull {
		t.Errorf("15.1: with one freed, a second Make answered %d", e)
	}
	freed, _ := runs(t, x)
	if len(freed) != maxObjects-1 || s.h.Len() != 1 || s.h.Used() != 1 {
		t.Errorf("15.2: %v were freed, Len is %d, Used %d", freed, s.h.Len(), s.h.Used())
	}
}

// What stands on the paint's stack stays there, and what is met, and how often
// it was Turned.
func TestStepLeavesTheRestOfThePaint(t *testing.T) {
	s := sideOf(t, 0, light(4), light(5), bare())
	s.p.Turn()
	s.p.Shade(own(1), 4)
	s.p.Shade(own(2), 5)
	s.p.Shade(far(2, 7), 6)
	s.p.Forget(1)
	x := s.sweeper(t)
	s.walks(t, x, "1: x 5g .", "0: x 5g .", "3: x 5g x")
	if rank, ok := s.p.Met(far(2, 7)); s.p.Waiting() != 2 || s.p.Over() || s.p.Turns() != 1 || rank != 6 || !ok {
		t.Errorf("15.1: Waiting is %d, Over %v, Turns %d, Met %d, %v", s.p.Waiting(), s.p.Over(), s.p.Turns(), rank, ok)
	}
	for _, want := range []uint64{2, 1} {
		if got, ok := s.p.Pop(); got != want || !ok {
			t.Errorf("15.1: Pop answered %d, %v, not %d", got, ok, want)
		}
	}
}

// A paint that is Over stays so, whatever the sweeper does.
func TestStepLeavesThePaintOver(t *testing.T) {
	s := sideOf(t, 0, bare(), bare(), bare())
	s.p, _ = paint.New(s.h, 1)
	s.p.Shade(own(1), 1)
	s.p.Shade(own(2), 2)
	x := s.sweeper(t)
	x.Begin()
	s.walks(t, x, "0: 1g 2g .", "0: 1g 2g .", "3: 1g 2g x")
	s.ends(t, x)
	if s.p.Waiting() != 1 || !s.p.Over() {
		t.Errorf("15.1: Waiting is %d, Over %v", s.p.Waiting(), s.p.Over())
	}
}

// Serials up to the last one there is.
func TestStepUpToTheLastSerial(t *testing.T) {
	for left := uint64(0); left <= 4; left++ {
		for marks := range 16 {
			w := twinOf(t, maxSerial-left)
			w.both(func(s side) {
				for n := range left {
					s.add(t, thing{marked: marks>>n&1 == 1})
				}
			})
			w.begin()
			if n := w.ends(t); uint64(n) != left {
				t.Fatalf("15.1: of %d, %d were met", left, n)
			}
			w.begin()
			w.ends(t)
		}
	}
}
