package mark_test

import (
	"fmt"
	"math/rand"
	"slices"
	"testing"

	"mooring/api"
)

// play does steps as r picks them: mostly Steps, and between them all that
// somebody else may do.
func (w *twin) play(t *testing.T, r *rand.Rand, steps int) {
	t.Helper()
	for range steps {
		switch k := r.Intn(40); {
		case k < 20:
			w.step(t)
		case k == 20:
			w.begin()
		default:
			w.meddle(t, r, k-21)
		}
		w.holds(t)
	}
}

// meddle does what somebody else may do, to both sides.
func (w *twin) meddle(t *testing.T, r *rand.Rand, kind int) {
	t.Helper()
	count := int(w.b.h.Last()-w.b.first) + 1
	s := w.b.first + uint64(r.Intn(count+1))
	x, rank, field := randomID(r, count, w.b.first), r.Intn(9), r.Intn(4)
	grown := randomThings(r, 1, w.b.first)[0]
	w.both(func(side side) {
		switch kind {
		case 0, 1, 2:
			if side.h.Len() < maxObjects && side.h.Last() < maxSerial {
				side.add(t, grown)
			}
		case 3:
			side.h.Free(s)
		case 4, 5, 6:
			side.h.SetRef(s, field, x)
		case 7, 8:
			side.h.SetIn(s, rank)
		case 9:
			side.p.Blacken(s)
		case 10:
			side.p.Forget(s)
		case 11:
			side.p.Scan(s)
		case 12:
			side.p.Pop()
		case 13:
			side.p.Rest()
		case 14:
			if rank == 0 {
				side.p.Turn()
			}
		default:
			side.p.Shade(x, rank)
		}
	})
}

func TestPlayedByManySeeds(t *testing.T) {
	lasts := []uint64{0, 5, 1 << 32, maxSerial - 12, maxSerial - 90}
	for seed := range int64(120) {
		r := rand.New(rand.NewSource(seed))
		last := lasts[seed%5]
		w := twinOf(t, 1+int(seed*seed)%7, last, randomThings(r, 1+r.Intn(10), last)...)
		w.play(t, r, 250)
		w.ends(t)
		w.play(t, r, 50)
		w.drains(t)
	}
}

// Two markers of two heaps know nothing of one another: Steps of one, and all
// that is done to its heap and its paint, are not seen in the other.
func TestMarkersKnowNothingOfOneAnother(t *testing.T) {
	things := []thing{held(2, 2, 3), held(0), held(0)}
	a, b := sideOf(t, 1, 0, things...), sideOf(t, 1, 0, things...)
	one, two := a.marker(t), b.marker(t)
	a.walks(t, one, "2g . . 1", "2 2g 2g 1 !")
	b.shows(t, "ahead of its first Step", ". . . 0")
	b.walks(t, two, "2g . . 1")
	one.Begin()
	b.walks(t, two, "2 2g 2g 1 !", "2 2 2g 0 !", "2 2 2g 0")
	a.shows(t, "with the other's pass under way", "2 2g 2g 1 !")
	runs(t, one)
	a.ends(t, one)
	b.walks(t, two, "2 2 2g 0", "2 2 2g 0", "2 2 2 0", "2 2 2 0", "2 2 2 0")
	b.ends(t, two)
	if _, e := a.h.Make(0, 0); e != api.OK {
		t.Fatalf("the test itself: Make answered %d", e)
	}
	b.ends(t, two)
	a.walks(t, one, "2 2 2 . 0")
}

// Two markers of one heap and one paint share what is marked, but neither place
// nor pass.
func TestTwoMarkersOfOneHeap(t *testing.T) {
	s := sideOf(t, 1, 0, held(2, 2, 3), held(0), held(0))
	one, two := s.marker(t), s.marker(t)
	s.walks(t, one, "2g . . 1")
	s.walks(t, two, "2 2g 2g 1 !", "2 2 2g 0 !", "2 2 2g 0")
	s.walks(t, one, "2 2 2g 0", "2 2 2g 0")
	s.ends(t, one)
	s.walks(t, two, "2 2 2g 0", "2 2 2g 0", "2 2 2 0", "2 2 2 0", "2 2 2 0", "2 2 2 0")
	s.ends(t, two)
	one.Begin()
	s.ends(t, two)
}

func TestManySideBySide(t *testing.T) {
	r := rand.New(rand.NewSource(7))
	var all []*twin
	for n := range 6 {
		all = append(all, twinOf(t, 1+n, uint64(n/2), randomThings(r, 1+2*n, uint64(n/2))...))
	}
	for range 200 {
		all[r.Intn(len(all))].play(t, r, 5)
		for _, w := range all {
			w.holds(t)
		}
	}
	for _, w := range all {
		w.ends(t)
	}
}

// A map's order is another one each time: none of it is to be seen.
func TestTheSameAgain(t *testing.T) {
	run := func() []string {
		r := rand.New(rand.NewSource(5))
		s := sideOf(t, 2, 0, randomThings(r, 40, 0)...)
		m := s.marker(t)
		var l []string
		for range 400 {
			l = append(l, fmt.Sprint(m.Step(), s.drawn(), s.p.Outs()))
		}
		return l
	}
	first := run()
	for range 5 {
		if again := run(); !slices.Equal(first, again) {
			t.Fatalf("R4: told the same, a marker does %v, then %v", first, again)
		}
	}
}
