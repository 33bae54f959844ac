package roots_test

import (
	"slices"
	"testing"

	"mooring/api"
	"mooring/roots"
)

// spoil writes over all of a list, its spare room too.
func spoil(l []api.ID) {
	whole := l[:cap(l)]
	for i := range whole {
		whole[i] = api.ID{Node: 7, Serial: 7777}
	}
}

// partTwin answers a twin of which some slots hold none, each mutator other
// ones.
func partTwin(t *testing.T) *twin {
	t.Helper()
	w := fullTwin(t, maxMutators, maxSlots)
	w.each(func(m, slot int) {
		if (m+slot)%3 == 0 {
			w.set(t, m, slot, none)
		}
	})
	w.holds(t)
	return w
}

// answers tells all lists that the roots answer: All, and Of of each mutator,
// of such as are not too.
func (w *twin) answers() [][]api.ID {
	l := [][]api.ID{w.r.All()}
	for m := -1; m <= w.mutators; m++ {
		l = append(l, w.r.Of(m))
	}
	return l
}

func TestWhatIsToldIsItsOwners(t *testing.T) {
	for _, w := range []*twin{fullTwin(t, 2, 2), fullTwin(t, maxMutators, maxSlots), partTwin(t), twinOf(t, 2, 3)} {
		for k := range w.answers() {
			spoil(w.answers()[k])
			w.holds(t)
			_ = append(w.answers()[k], idC)
			w.holds(t)
		}
	}
}

func TestNoTwoAnswersShareAny(t *testing.T) {
	for _, w := range []*twin{fullTwin(t, maxMutators, maxSlots), partTwin(t), twinOf(t, 2, 3)} {
		for k := range w.answers() {
			first, second := w.answers(), w.answers()
			spoil(first[k])
			for j, want := range w.answers() {
				if j != k && !slices.Equal(first[j], want) || !slices.Equal(second[j], want) {
					t.Fatalf("R2: writing into the answer %d turned %d into %v, %v", k, j, first[j], second[j])
				}
			}
		}
	}
}

// What was told stays so while the roots go on, from full to empty and back.
func TestAnEarlierAnswerStaysAsItWas(t *testing.T) {
	for _, w := range []*twin{fullTwin(t, maxMutators, maxSlots), partTwin(t), twinOf(t, maxMutators, maxSlots)} {
		told := w.answers()
		var as [][]api.ID
		for _, l := range told {
			as = append(as, slices.Clone(l))
		}
		for _, x := range []api.ID{idA, none, idB} {
			w.each(func(m, slot int) {
				w.set(t, m, slot, x)
				w.r.All()
				w.r.Of(m)
				for k := range told {
					if !slices.Equal(told[k], as[k]) {
						t.Fatalf("R2: what was told as %v is now %v", as[k], told[k])
					}
				}
			})
		}
	}
}

// Asking changes nothing, however often and for whatever.
func TestAskingChangesNothing(t *testing.T) {
	w := partTwin(t)
	for _, m := range append(outside(w.mutators), 0, 1, 2, 3) {
		for _, slot := range append(outside(w.slots), 0, 3, 7) {
			w.r.Get(m, slot)
		}
		w.r.Of(m)
		w.r.All()
	}
	for _, x := range slices.Concat(rightIDs, wrongIDs) {
		w.r.Count(x)
	}
	w.holds(t)
}

func TestRootsKnowNothingOfOneAnother(t *testing.T) {
	a, b, c := twinOf(t, 2, 3), twinOf(t, 2, 3), fullTwin(t, 1, 8)
	all := func() {
		t.Helper()
		a.holds(t)
		b.holds(t)
		c.holds(t)
	}
	all()
	a.each(func(m, slot int) {
		a.set(t, m, slot, idA)
		all()
	})
	b.set(t, 1, 2, idB)
	all()
	a.refused(t, 0, 7, idC)
	c.set(t, 0, 7, idC)
	all()
	spoil(b.r.All())
	spoil(a.r.Of(1))
	all()
	a.set(t, 1, 2, none)
	all()
	if r, e := roots.New(0, 3); r != nil || e != api.ErrArg {
		t.Errorf("9.1: New(0, 3) answered %v, %d", r, e)
	}
	fresh(t, 2, 3).Set(0, 0, idC)
	all()
}

// What one answers can be put into another, and neither hangs on it.
func TestWhatOneAnswersCanBePutIntoAnother(t *testing.T) {
	a, b := fullTwin(t, 2, 3), twinOf(t, 2, 3)
	l := a.r.All()
	b.each(func(m, slot int) { b.set(t, m, slot, l[3*m+slot]) })
	spoil(l)
	a.holds(t)
	b.holds(t)
	if !slices.Equal(a.r.All(), b.r.All()) {
		t.Errorf("9.2: told the same, one tells %v, the other %v", a.r.All(), b.r.All())
	}
}
