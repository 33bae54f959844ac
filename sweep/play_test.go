package sweep_test

import (
	"math/rand"
	"testing"

	"mooring/api"
)

// play does steps as r picks them: mostly Steps, and between them all that
// somebody else may do.
func (w *twin) play(t *testing.T, r *rand.Rand, steps int) {
	t.Helper()
	for range steps {
		switch k := r.Intn(36); {
		case k < 14:
			w.step(t)
		case k < 17:
			w.begin()
		default:
			w.meddle(t, r, k-17)
		}
		w.holds(t)
	}
}

// meddle does what somebody else may do, to both sides.
func (w *twin) meddle(t *testing.T, r *rand.Rand, kind int) {
	t.Helper()
	count := int(w.b.h.Last()-w.b.first) + 1
	s := w.b.first + uint64(r.Intn(count+1))
	x, rank, field := randomID(r, count, w.b.first), r.Intn(maxDist+3)-1, r.Intn(4)
	grown := randomThings(r, 1, w.b.first)[0]
	w.both(func(side side) {
		switch kind {
		case 0, 1, 2, 3, 4, 5:
			if side.h.Len() < maxObjects && side.h.Last() < maxSerial {
				side.add(t, grown)
			}
		case 6:
			side.h.Free(s)
		case 7:
			side.h.SetRef(s, field, x)
		case 8:
			side.h.SetIn(s, rank)
		case 9:
			side.p.Blacken(s)
		case 10, 11:
			side.p.Forget(s)
		case 12:
			side.p.Scan(s)
		case 13:
			side.p.Pop()
		case 14:
			if rank < 4 {
				side.p.Turn()
			}
		default:
			side.p.Shade(x, rank)
		}
	})
}

func TestPlayedByManySeeds(t *testing.T) {
	lasts := []uint64{0, 5, 1 << 32, maxSerial - 12, maxSerial - 90}
	for seed := range int64(200) {
		r := rand.New(rand.NewSource(seed))
		last := lasts[seed%5]
		w := twinOf(t, last, randomThings(r, 1+r.Intn(10), last)...)
		w.play(t, r, 300)
		w.ends(t)
		w.play(t, r, 50)
		w.begin()
		w.ends(t)
		w.drains(t)
	}
}

// Two sweepers of two heaps know nothing of one another: Steps of one, and all
// that is done to its heap and its paint, are not seen in the other.
func TestSweepersKnowNothingOfOneAnother(t *testing.T) {
	things := []thing{bare(), dark(2), bare()}
	a, b := sideOf(t, 0, things...), sideOf(t, 0, things...)
	one, two := a.sweeper(t), b.sweeper(t)
	a.walks(t, one, "1: x 2 .", "0: x 2 .")
	b.shows(t, "ahead of its first Step", ". 2 .")
	b.walks(t, two, "1: x 2 .")
	a.add(t, bare())
	a.p.Turn()
	one.Begin()
	b.walks(t, two, "0: x 2 .", "3: x 2 x")
	a.shows(t, "with the other at its end", "x . . .")
	b.ends(t, two)
	a.walks(t, one, "2: x x . .", "3: x x x .", "4: x x x x")
	a.ends(t, one)
	b.ends(t, two)
	b.shows(t, "at the end", "x 2 x")
}

// Two sweepers of one heap and one paint share what is there, but neither place
// nor end.
func TestTwoSweepersOfOneHeap(t *testing.T) {
	s := sideOf(t, 0, bare(), dark(2), bare(), bare())
	one := s.sweeper(t)
	s.add(t, bare())
	two := s.sweeper(t)
	s.walks(t, one, "1: x 2 . . .", "0: x 2 . . .")
	s.walks(t, two, "0: x 2 . . .", "3: x 2 x . .")
	s.walks(t, one, "4: x 2 x x .")
	s.ends(t, one)
	s.walks(t, two, "5: x 2 x x x")
	s.ends(t, two)
	s.add(t, bare())
	one.Begin()
	s.ends(t, two)
	s.walks(t, one, "0: x 2 x x x .", "6: x 2 x x x x")
	s.ends(t, one)
	s.ends(t, two)
}

func TestManySideBySide(t *testing.T) {
	r := rand.New(rand.NewSource(7))
	var all []*twin
	for n := range 6 {
		last := uint64(n / 2)
		all = append(all, twinOf(t, last, randomThings(r, 1+2*n, last)...))
	}
	for range 200 {
		all[r.Intn(len(all))].play(t, r, 5)
		for _, w := range all {
			w.holds(t)
		}
	}
	for _, w := range all {
		w.ends(t)
	}
}

// A heap is filled and swept empty, many times: there is room each time.
func TestFilledAndSweptManyTimes(t *testing.T) {
	s := sideOf(t, 0)
	x := s.sweeper(t)
	for round := range 200 {
		for s.h.Len() < maxObjects {
			s.add(t, bare())
		}
		x.Begin()
		freed, n := runs(t, x)
		if len(freed) != maxObjects || n != maxObjects || s.h.Len() != 0 || s.h.Used() != 0 {
			t.Fatalf("15.2: in the round %d, %v were freed in %d Steps", round, freed, n)
		}
		if first := uint64(round*maxObjects + 1); freed[0] != first || freed[maxObjects-1] != first+maxObjects-1 {
			t.Fatalf("15.2: in the round %d, %v were freed", round, freed)
		}
	}
	if _, e := s.h.Make(maxFields, maxFields); e != api.OK {
		t.Errorf("15.1: behind many rounds, Make answered %d", e)
	}
}
