package paint_test

import (
	"math/rand"
	"slices"
	"testing"

	"mooring/api"
)

// randomID answers an ID of any kind, mostly of an object.
func (w *twin) randomID(r *rand.Rand) api.ID {
	switch r.Intn(10) {
	case 0:
		return none
	case 1:
		return wrongIDs[r.Intn(len(wrongIDs))]
	case 2, 3:
		return farIDs[r.Intn(len(farIDs))]
	default:
		return own(w.randomSerial(r))
	}
}

// randomSerial answers one that may be an object's, or was, or will be.
func (w *twin) randomSerial(r *rand.Rand) uint64 { return uint64(r.Intn(int(w.h.Last()) + 2)) }

// randomRank answers a rank, mostly one of a few.
func randomRank(r *rand.Rand) int {
	if r.Intn(8) == 0 {
		return someRanks[r.Intn(len(someRanks))]
	}
	return r.Intn(6)
}

// grow makes an object with a few references.
func (w *twin) grow(r *rand.Rand) {
	s, e := w.h.Make(r.Intn(4), 0)
	if e != api.OK {
		return
	}
	for i := range 3 {
		w.h.SetRef(s, i, w.randomID(r))
	}
}

// play does steps as r picks them; Turns are rare, so that many are marked.
func (w *twin) play(t *testing.T, r *rand.Rand, steps int) {
	t.Helper()
	for range steps {
		switch s := w.randomSerial(r); r.Intn(24) {
		case 0:
			w.forget(s)
		case 1, 2:
			w.blacken(s)
		case 3, 4:
			w.pop(t)
		case 5:
			w.rest()
		case 6:
			if r.Intn(8) == 0 {
				w.turn()
			}
		case 7:
			w.h.SetRef(s, r.Intn(3), w.randomID(r))
		case 8:
			w.h.Free(s)
		case 9, 10:
			w.grow(r)
		case 11:
			spoil(w.p.Outs())
		case 12, 13, 14, 15, 16:
			w.scan(t, s)
		default:
			w.shade(w.randomID(r), randomRank(r))
		}
		w.holds(t)
	}
}

func TestPlayedByManySeeds(t *testing.T) {
	for seed := range int64(40) {
		r := rand.New(rand.NewSource(seed))
		w := twinOf(t, heapOf(t), 1+int(seed*seed)%9)
		for range 3 + r.Intn(9) {
			w.grow(r)
		}
		w.play(t, r, 200)
		w.drains(t)
	}
}

func TestManySideBySide(t *testing.T) {
	r := rand.New(rand.NewSource(7))
	h := heapOf(t, nil, nil, nil)
	all := []*twin{twinOf(t, h, 1), twinOf(t, h, 2), twinOf(t, h, maxGrey), twinWith(t), twinWith(t, nil)}
	for range 80 {
		all[r.Intn(len(all))].play(t, r, 5)
		for _, w := range all {
			w.holds(t)
		}
	}
	for _, w := range all {
		w.drains(t)
	}
}

// A map's order is another one each time: none of it is to be seen.
func TestTheSameAgain(t *testing.T) {
	run := func() []string {
		r := rand.New(rand.NewSource(5))
		w := twinOf(t, heapOf(t, farIDs[:7], farIDs[7:], nil), 4)
		var l []string
		for range 15 {
			w.play(t, r, 20)
			l = append(l, told(w.h, w.p))
		}
		return l
	}
	first := run()
	for range 5 {
		if again := run(); len(first) == 0 || !slices.Equal(first, again) {
			t.Fatalf("R4: told the same, a paint tells %v, then %v", first, again)
		}
	}
}

// doings are all that can be done with two objects in few ways.
func doings(t *testing.T) []func(w *twin) {
	return []func(w *twin){
		func(w *twin) { w.shade(own(1), 2) },
		func(w *twin) { w.shade(own(1), 1) },
		func(w *twin) { w.shade(own(2), 2) },
		func(w *twin) { w.shade(own(2), 0) },
		func(w *twin) { w.blacken(1) },
		func(w *twin) { w.blacken(2) },
		func(w *twin) { w.scan(t, 1) },
		func(w *twin) { w.scan(t, 2) },
		func(w *twin) { w.pop(t) },
		func(w *twin) { w.rest() },
		func(w *twin) { w.forget(1) },
		func(w *twin) { w.forget(2) },
		func(w *twin) { w.turn() },
		func(w *twin) { w.h.Free(2) },
	}
}

// Four doings, one behind the other, in every order there is, over two objects
// that lead to each other, to themselves and away; with room for one, and two.
func TestEveryFewDoings(t *testing.T) {
	all := doings(t)
	for most := 1; most <= 2; most++ {
		for n := range power(len(all), 4) {
			w := twinOf(t, heapOf(t, []api.ID{own(2), own(1)}, []api.ID{far(2, 7), own(1)}), most)
			for k := range 4 {
				all[n/power(len(all), k)%len(all)](w)
			}
			w.agrees(t)
		}
	}
}

// power answers b taken k times.
func power(b, k int) int {
	p := 1
	for range k {
		p *= b
	}
	return p
}

// agrees is holds in short, with what is on the stack.
func (w *twin) agrees(t *testing.T) {
	t.Helper()
	w.isMarked(t, 1)
	w.isMarked(t, 2)
	if !slices.Equal(w.p.Outs(), w.outs) || w.p.Over() != w.over || w.p.Waiting() != len(w.stack) || w.p.Turns() != w.turns {
		t.Fatalf("11: Outs is %v, Over %v, Waiting %d, Turns %d", w.p.Outs(), w.p.Over(), w.p.Waiting(), w.p.Turns())
	}
	for ok := true; ok; {
		_, ok = w.pop(t)
	}
}
