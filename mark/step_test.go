package mark_test

import (
	"testing"

	"mooring/api"
)

func TestStepOfAnEmptyHeap(t *testing.T) {
	for _, most := range []int{1, 2, maxGrey} {
		s := sideOf(t, most, 0)
		m := s.marker(t)
		s.ends(t, m)
		m.Begin()
		s.ends(t, m)
	}
}

// 4: each object is the place once, in the order of the serials; just those
// whose In is above 0 are Shaded, each with its own.
func TestStepGoesFromPlaceToPlace(t *testing.T) {
	s := sideOf(t, 4, 0, held(0), held(7), held(0), held(1), held(maxDist), held(0))
	m := s.marker(t)
	s.walks(t, m,
		". . . . . . 0",
		". 7g . . . . 1", ". 7 . . . . 0",
		". 7 . . . . 0",
		". 7 . 1g . . 1", ". 7 . 1 . . 0",
		". 7 . 1 40g . 1", ". 7 . 1 40 . 0",
		". 7 . 1 40 . 0")
	s.ends(t, m)
}

// 4: an In of 0 is no rank: what it is marked with stays, and so does one that
// is not marked.
func TestStepDoesNotShadeWithoutAnIn(t *testing.T) {
	s := sideOf(t, 4, 0, held(0), held(0), held(0))
	m := s.marker(t)
	s.p.Shade(own(2), 5)
	s.walks(t, m, ". 5 . 0", ". 5 . 0", ". 5 . 0", ". 5 . 0")
	s.ends(t, m)
}

func TestStepShadesWithEveryIn(t *testing.T) {
	for in := range maxDist + 1 {
		s := sideOf(t, 4, 0, held(in))
		if !s.marker(t).Step() {
			t.Fatalf("13.2: with an In of %d, Step answered false", in)
		}
		if rank, grey, ok := s.p.Mark(1); rank != in || grey != (in > 0) || ok != (in > 0) {
			t.Errorf("13.2: with an In of %d, Mark answered %d, %v, %v", in, rank, grey, ok)
		}
	}
}

// 4: what is marked already is Shaded all the same: a lesser In is its rank
// from then on, and a greater one is nothing; a Step each.
func TestStepShadesWhatIsMarked(t *testing.T) {
	s := sideOf(t, 4, 0, held(3), held(3), held(3), held(3))
	m := s.marker(t)
	for i, rank := range []int{2, 3, 4} {
		s.p.Shade(own(uint64(1+i)), rank)
		m.Step()
	}
	s.p.Blacken(4)
	s.shows(t, "with all but the last Scanned", "2 3 4 0 0")
	s.walks(t, m, "2 3 4 0 0", "2 3 4 0 0", "2 3 3g 0 1", "2 3 3 0 0", "2 3 3 0 0")
	s.ends(t, m)
}

// The objects of other nodes with the same serials are no objects here.
func TestStepShadesItsOwnNode(t *testing.T) {
	s := sideOf(t, 4, 0, held(2))
	m := s.marker(t)
	if !m.Step() || len(s.p.Outs()) != 0 {
		t.Errorf("13.2: with an In of its own, Outs is %v", s.p.Outs())
	}
	s.shows(t, "behind a Step", "2g 1")
}

// 1: one is Popped, and Scanned: the one on top, and only that one.
func TestStepPopsOneAndScansIt(t *testing.T) {
	s := sideOf(t, 4, 0, held(0, 4), held(0, 5), held(0), held(0), held(0))
	m := s.marker(t)
	s.p.Shade(own(1), 6)
	s.p.Shade(own(2), 2)
	s.walks(t, m,
		"6g 2 . . 2g 2", "6g 2 . . 2 1",
		"6 2 . 6g 2 1", "6 2 . 6 2 0")
}

// 1 comes ahead of all else: with something on the stack, the paint is Over as
// it was, and the place where it was.
func TestStepTakesFromTheStackFirst(t *testing.T) {
	s := sideOf(t, 2, 0, held(9), held(0), held(0), held(0))
	m := s.marker(t)
	for serial := uint64(2); serial <= 4; serial++ {
		s.p.Shade(own(serial), 1)
	}
	s.shows(t, "ahead of all", ". 1g 1g 1g 2 !")
	s.walks(t, m, ". 1g 1 1g 1 !", ". 1 1 1g 0 !")
	s.walks(t, m, ". 1 1 1g 0", ". 1 1 1g 0", ". 1 1 1g 0", ". 1 1 1g 0", ". 1 1 1 0")
	s.walks(t, m, "9g 1 1 1 1", "9 1 1 1 0")
}

// 1: also what the heap has no more takes a Step, and so does one that is not
// grey any more, or not marked any more.
func TestStepPopsWhatIsNotToBeScanned(t *testing.T) {
	s := sideOf(t, 4, 0, held(0, 4), held(0, 4), held(0, 4), held(0))
	m := s.marker(t)
	for serial := uint64(1); serial <= 3; serial++ {
		s.p.Shade(own(serial), 3)
	}
	s.h.Free(3)
	s.p.Forget(2)
	s.p.Scan(1)
	s.p.Pop()
	s.shows(t, "ahead of all", "3 . x 3g 3")
	s.walks(t, m, "3 . x 3g 2", "3 . x 3g 1", "3 . x 3g 0")
	s.walks(t, m, "3 . x 3g 0", "3 . x 3g 0", "3 . x 3g 0")
	s.ends(t, m)
}

// 1: also where the heap has nothing any more.
func TestStepPopsOfAnEmptyHeap(t *testing.T) {
	s := sideOf(t, 4, 0, held(2), held(2))
	m := s.marker(t)
	s.p.Shade(own(1), 3)
	s.p.Shade(own(2), 3)
	s.h.Free(1)
	s.h.Free(2)
	s.walks(t, m, "x x 1", "x x 0")
	s.ends(t, m)
}

// 3: the paint Rests, and nothing else is done in that Step, with nothing in
// the heap too.
func TestStepRests(t *testing.T) {
	s := sideOf(t, 1, 0, held(4), held(4))
	m := s.marker(t)
	s.p.Shade(own(1), 2)
	s.p.Shade(own(2), 2)
	s.p.Pop()
	s.shows(t, "ahead of all", "2g 2g 0 !")
	s.walks(t, m, "2g 2g 0", "2 2g 0", "2 2 0", "2 2 0", "2 2 0")
	s.ends(t, m)

	s = sideOf(t, 1, 0, held(4), held(4))
	m = s.marker(t)
	s.p.Shade(own(1), 2)
	s.p.Shade(own(2), 2)
	s.p.Pop()
	s.h.Free(1)
	s.h.Free(2)
	s.walks(t, m, "x x 0")
	s.ends(t, m)
}

// A false changes nothing, so that what comes later is met as if Step had not
// been asked.
func TestStepBehindAFalse(t *testing.T) {
	for asked := range 4 {
		s := sideOf(t, 2, 0, held(2, 2), held(0))
		m := s.marker(t)
		runs(t, m)
		for range asked {
			if m.Step() {
				t.Fatal("13.2: behind a false, Step answered true")
			}
		}
		s.add(t, held(0))
		s.add(t, held(1, 2))
		s.walks(t, m, "2 2 . . 0", "2 2 . 1g 1", "2 1g . 1 1", "2 1 . 1 0")
		s.ends(t, m)
	}
}

// Behind a false, what somebody Shades is gone through; the place stays at the
// end.
func TestStepGoesOnWithWhatIsShadedLater(t *testing.T) {
	s := sideOf(t, 2, 0, held(4), held(0, 3), held(0, 2))
	m := s.marker(t)
	runs(t, m)
	s.p.Shade(own(3), 0)
	s.walks(t, m, "4 0g 0 1", "4 0 0 0")
	s.ends(t, m)
}

// References to objects of other nodes are met in the Step in which they are
// gone through, each once, with the least rank.
func TestStepMeetsWhatIsRemote(t *testing.T) {
	s := sideOf(t, 4, 0, thing{5, []api.ID{far(2, 7), far(9, 9)}}, thing{3, []api.ID{far(2, 7), far(1, 2)}})
	m := s.marker(t)
	met := func(want ...api.Out) {
		t.Helper()
		got := s.p.Outs()
		if len(got) != len(want) {
			t.Fatalf("13.2: Outs is %v, not %v", got, want)
		}
		for i, o := range want {
			if got[i] != o {
				t.Fatalf("13.2: Outs is %v, not %v", got, want)
			}
		}
	}
	m.Step()
	met()
	m.Step()
	met(api.Out{ID: far(2, 7), Rank: 5}, api.Out{ID: far(9, 9), Rank: 5})
	m.Step()
	met(api.Out{ID: far(2, 7), Rank: 5}, api.Out{ID: far(9, 9), Rank: 5})
	m.Step()
	met(api.Out{ID: far(1, 2), Rank: 3}, api.Out{ID: far(2, 7), Rank: 3}, api.Out{ID: far(9, 9), Rank: 5})
	s.ends(t, m)
}

// Serials up to the last one there is.
func TestStepUpToTheLastSerial(t *testing.T) {
	for left := uint64(1); left <= 4; left++ {
		for most := 1; most <= 2; most++ {
			last := maxSerial - left
			w := twinOf(t, most, last)
			for n := uint64(1); n <= left; n++ {
				w.both(func(s side) { s.add(t, held(int(n), last+1, maxSerial)) })
			}
			w.both(func(s side) { s.p.Shade(own(maxSerial), 9) })
			w.ends(t)
			w.a.reached(t, []root{{own(maxSerial), 9}})
		}
	}
}

// A paint of another heap: nothing is promised, but that every call ends and
// none panics.
func TestAPaintOfAnotherHeap(t *testing.T) {
	a, b := sideOf(t, 1, 0, held(2, 2), held(1)), sideOf(t, 1, 5, held(1, 7, 8), held(3, 6), held(2))
	for _, s := range []side{{a.h, b.p, a.first}, {b.h, a.p, b.first}} {
		m := s.marker(t)
		s.p.Shade(own(6), 1)
		s.p.Shade(own(1), 1)
		for range 50 {
			m.Step()
		}
		m.Begin()
		m.Step()
	}
}
