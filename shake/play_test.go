package shake_test

import (
	"math/rand"
	"slices"
	"testing"

	"mooring/api"
	"mooring/shake"
)

// play does steps as r picks them, mostly such as go on.
func (w *twin) play(t *testing.T, r *rand.Rand, steps int) {
	t.Helper()
	none := outside(w.mutators)
	for range steps {
		switch r.Intn(8) {
		case 0:
			w.begin(t)
		case 1:
			w.end(t)
		case 2:
			w.answer(t, none[r.Intn(len(none))])
		default:
			w.answer(t, r.Intn(w.mutators+1))
		}
		w.holds(t)
	}
}

func TestPlayedByManySeeds(t *testing.T) {
	for seed := range int64(60) {
		w := twinOf(t, 1+int(seed)%maxMutators)
		w.play(t, rand.New(rand.NewSource(seed)), 300)
		w.rounds(t)
		w.holds(t)
	}
}

func TestTheSameAgain(t *testing.T) {
	again := func() []string {
		r := rand.New(rand.NewSource(5))
		w := twinOf(t, maxMutators)
		var l []string
		for range 100 {
			w.play(t, r, 3)
			l = append(l, told(w.s))
		}
		return l
	}
	first := again()
	for range 3 {
		if next := again(); len(first) == 0 || !slices.Equal(first, next) {
			t.Fatalf("R4: told the same, one tells %v, then %v", first, next)
		}
	}
}

func TestManySideBySide(t *testing.T) {
	r := rand.New(rand.NewSource(7))
	var all []*twin
	for n := range 8 {
		all = append(all, twinOf(t, 1+n%maxMutators))
	}
	for range 300 {
		all[r.Intn(len(all))].play(t, r, 3)
		for _, w := range all {
			w.holds(t)
		}
	}
}

// While one goes through all it can do, the other stays where it is, wherever
// that is.
func TestTwoKnowNothingOfOneAnother(t *testing.T) {
	eachCount(func(mutators int) {
		for _, way := range walk(t, mutators) {
			a, b := twinOf(t, mutators), twinOf(t, mutators)
			for _, d := range way {
				a.do(t, d)
			}
			was := told(a.s)
			b.finishes(t)
			b.begin(t)
			b.answer(t, 0)
			if now := told(a.s); now != was {
				t.Fatalf("R8: while another went on, %s turned into %s", was, now)
			}
			a.rounds(t)
			a.holds(t)
			b.holds(t)
		}
	})
}

// A new one, also one that is refused, turns none that is there.
func TestNewTurnsNone(t *testing.T) {
	w := scanning(t, 3)
	w.answers(t, 3, 1)
	for n := -1; n <= maxMutators+1; n++ {
		if s, e := shake.New(n); e == api.OK {
			s.Begin()
			s.Answer(0)
		}
		w.holds(t)
	}
	w.answers(t, 0, 2)
	w.is(t, run)
}

// Asking changes nothing, however often and for whatever.
func TestAskingChangesNothing(t *testing.T) {
	eachCount(func(mutators int) {
		for _, way := range walk(t, mutators) {
			w := doAll(t, mutators, way)
			for range 3 {
				w.holds(t)
			}
			w.rounds(t)
			w.holds(t)
		}
	})
}
