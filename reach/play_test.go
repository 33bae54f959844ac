package reach_test

import (
	"fmt"
	"math/rand"
	"slices"
	"testing"
)

// play does steps as r picks them: mostly Steps, and between them all that
// somebody else may do.
func (w *twin) play(t *testing.T, r *rand.Rand, steps int) {
	t.Helper()
	for range steps {
		switch k := r.Intn(40); {
		case k < 24:
			w.step(t)
		case k == 24:
			w.begin(r.Intn(12) - 1)
		case k == 25:
			spoil(w.r.Rows())
		default:
			w.meddle(t, r, k-26)
		}
		w.holds(t)
	}
}

// meddle does what somebody else may do.
func (w *twin) meddle(t *testing.T, r *rand.Rand, kind int) {
	t.Helper()
	count := int(w.h.Last()-w.first) + 1
	s := w.first + uint64(r.Intn(count+1))
	x, rank, field := randomID(r, count, w.first), r.Intn(12), r.Intn(4)
	switch kind {
	case 0, 1, 2:
		if w.h.Len() < maxObjects && w.h.Last() < maxSerial {
			w.add(t, randomThing(r, count, w.first))
		}
	case 3:
		w.h.Free(s)
	case 4, 5:
		w.h.SetRef(s, field, x)
	case 6, 7:
		w.h.SetIn(s, rank)
	case 8:
		w.p.Blacken(s)
	case 9:
		w.remark(s, rank-1)
	case 10:
		w.p.Scan(s)
	case 11:
		if rank == 0 {
			w.p.Turn()
		}
	default:
		w.p.Shade(x, rank)
	}
}

func TestPlayedByManySeeds(t *testing.T) {
	lasts := []uint64{0, 5, 1 << 32, maxSerial - 12, maxSerial - 90}
	for seed := range int64(200) {
		r := rand.New(rand.NewSource(seed))
		last := lasts[seed%5]
		w := twinOf(t, r.Intn(6), randomGraph(r, 1+r.Intn(10), last).side(t, last))
		w.play(t, r, 300)
		w.ends(t)
		w.play(t, r, 50)
		w.ends(t)
	}
}

// Two reachers of two heaps know nothing of one another: Steps of one, and all
// that is done to its heap and its paint, are not seen in the other.
func TestReachersKnowNothingOfOneAnother(t *testing.T) {
	build := func() side {
		return sideOf(t, 0, held(5, 5, own(2), far(2, 7)), held(1, 5, own(1), far(2, 8))).meets(9, far(2, 7), far(2, 8))
	}
	a, b := build(), build()
	one, two := a.reacher(t, 3), b.reacher(t, 3)
	walks(t, one, "", "", "", "1:2.7,2.8")
	shows(t, two, "ahead of its first Step", "")
	walks(t, two, "", "")
	one.Begin(7)
	walks(t, two, "", "1:2.7,2.8", "1:2.7,2.8")
	shows(t, one, "behind Begin", "")
	a.p.Turn()
	a.h.Free(1)
	walks(t, one, "")
	ends(t, one, "")
	walks(t, two, "1:2.7,2.8", "1:2.7,2.8 2:2.7,2.8")
	a.add(t, held(1, 9))
	ends(t, two, "1:2.7,2.8 2:2.7,2.8")
	walks(t, one, "", "", "3:")
	ends(t, one, "3:")
}

// Two reachers of one heap and one paint share neither bound, place nor rows.
func TestTwoReachersOfOneHeap(t *testing.T) {
	s := sideOf(t, 0, held(5, 5, own(2), far(2, 7)), held(1, 9, own(1), far(2, 8))).meets(9, far(2, 7), far(2, 8))
	one, two := s.reacher(t, 3), s.reacher(t, 8)
	walks(t, one, "", "")
	walks(t, two, "", "", "")
	walks(t, one, "", "1:2.7,2.8")
	shows(t, two, "with its row under way", "")
	walks(t, two, "2:2.8")
	ends(t, two, "2:2.8")
	walks(t, one, "1:2.7,2.8", "1:2.7,2.8")
	two.Begin(3)
	shows(t, two, "behind Begin", "")
	walks(t, one, "1:2.7,2.8 2:2.7,2.8")
	ends(t, one, "1:2.7,2.8 2:2.7,2.8")
	walks(t, two, "", "", "", "1:2.7,2.8")
}

func TestManySideBySide(t *testing.T) {
	r := rand.New(rand.NewSource(7))
	var all []*twin
	for n := range 6 {
		last := uint64(n / 2)
		all = append(all, twinOf(t, n, randomGraph(r, 1+2*n, last).side(t, last)))
	}
	for range 200 {
		all[r.Intn(len(all))].play(t, r, 5)
		for _, w := range all {
			w.holds(t)
		}
	}
	for _, w := range all {
		w.ends(t)
	}
}

// A map's order is another one each time: none of it is to be seen.
func TestTheSameAgain(t *testing.T) {
	run := func() []string {
		r := rand.New(rand.NewSource(5))
		x := randomGraph(r, 40, 0).side(t, 0).reacher(t, 2)
		var l []string
		for range 400 {
			l = append(l, fmt.Sprint(x.Step(), drawn(x.Rows())))
		}
		return l
	}
	first := run()
	for range 5 {
		if again := run(); !slices.Equal(first, again) {
			t.Fatalf("R4: told the same, a reacher comes to %v, then %v", first, again)
		}
	}
}
