package roots_test

import (
	"fmt"
	"math/rand"
	"slices"
	"testing"

	"mooring/api"
)

// play does steps as r picks them: of few IDs, so that many slots hold one and
// many hold none.
func (w *twin) play(t *testing.T, r *rand.Rand, steps int) {
	t.Helper()
	for range steps {
		m, slot := r.Intn(w.mutators), r.Intn(w.slots)
		switch r.Intn(8) {
		case 0:
			w.refuses(t, r)
		case 1, 2:
			w.set(t, m, slot, none)
		case 3:
			spoil(w.r.Of(m))
			spoil(w.r.All())
		default:
			w.set(t, m, slot, rightIDs[r.Intn(len(rightIDs))])
		}
		w.holds(t)
	}
}

// refuses does what must be refused.
func (w *twin) refuses(t *testing.T, r *rand.Rand) {
	t.Helper()
	ms, slots := outside(w.mutators), outside(w.slots)
	m, slot := r.Intn(w.mutators), r.Intn(w.slots)
	noM, noSlot := ms[r.Intn(len(ms))], slots[r.Intn(len(slots))]
	w.absent(t, noM, slot)
	w.absent(t, m, noSlot)
	w.absent(t, noM, noSlot)
	w.refused(t, m, slot, wrongIDs[r.Intn(len(wrongIDs))])
	if got := w.r.Of(noM); len(got) != 0 {
		t.Fatalf("9.2: Of(%d) is %v", noM, got)
	}
}

func TestPlayedByManySeeds(t *testing.T) {
	seed := int64(0)
	eachSize(func(mutators, slots int) {
		seed++
		twinOf(t, mutators, slots).play(t, rand.New(rand.NewSource(seed)), 150)
	})
}

func TestManySideBySide(t *testing.T) {
	r := rand.New(rand.NewSource(7))
	var all []*twin
	for n := range 6 {
		all = append(all, twinOf(t, 1+n%maxMutators, 1+n%3))
	}
	for range 60 {
		all[r.Intn(len(all))].play(t, r, 5)
		for _, w := range all {
			w.holds(t)
		}
	}
}

func TestTheSameAgain(t *testing.T) {
	run := func() []string {
		r := rand.New(rand.NewSource(5))
		w := twinOf(t, maxMutators, maxSlots)
		var l []string
		for range 15 {
			w.play(t, r, 10)
			l = append(l, fmt.Sprint(w.answers(), w.r.Count(none)))
		}
		return l
	}
	first := run()
	for range 3 {
		if again := run(); len(first) == 0 || !slices.Equal(first, again) {
			t.Fatalf("R4: told the same, roots tell %v, then %v", first, again)
		}
	}
}

// What roots tell hangs on what their slots hold, not on how it came there.
func TestHowItCameIsNotSeen(t *testing.T) {
	for seed := range int64(20) {
		r := rand.New(rand.NewSource(seed))
		w, n := twinOf(t, 3, 5), twinOf(t, 3, 5)
		w.play(t, r, 60)
		order := r.Perm(15)
		for _, k := range order {
			x, _ := w.r.Get(k/5, k%5)
			n.set(t, k/5, k%5, x)
		}
		n.holds(t)
		if now, then := fmt.Sprint(w.answers()), fmt.Sprint(n.answers()); now != then {
			t.Fatalf("R4: of the same slots, roots tell %s, others %s", now, then)
		}
		n.each(func(m, slot int) { n.set(t, m, slot, none) })
		if l := n.r.All(); len(l) != 0 || n.r.Count(none) != 15 || n.r.Count(api.ID{Node: 3, Serial: 4}) != 0 {
			t.Fatalf("9.2: with all slots empty, All is %v", l)
		}
	}
}
