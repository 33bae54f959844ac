package roots_test

import (
	"math"
	"slices"
	"testing"

	"mooring/api"
)

var (
	idA = api.ID{Node: 3, Serial: 4}
	idB = api.ID{Node: 1, Serial: 2}
	idC = api.ID{Node: maxNodes, Serial: maxSerial}
)

// Plain numbers, told without a twin.
func TestOfInTheSlotsOrder(t *testing.T) {
	r := fresh(t, 2, 4)
	steps := []struct {
		slot int
		x    api.ID
		want []api.ID
	}{
		{2, idC, []api.ID{idC}},
		{0, idA, []api.ID{idA, idC}},
		{3, idB, []api.ID{idA, idC, idB}},
		{1, idC, []api.ID{idA, idC, idC, idB}},
		{0, none, []api.ID{idC, idC, idB}},
		{2, none, []api.ID{idC, idB}},
		{2, idA, []api.ID{idC, idA, idB}},
		{3, none, []api.ID{idC, idA}},
		{1, none, []api.ID{idA}},
		{2, none, nil},
	}
	for i, s := range steps {
		r.Set(1, s.slot, s.x)
		if got := r.Of(1); !slices.Equal(got, s.want) {
			t.Errorf("9.2: behind step %d, Of(1) is %v, not %v", i, got, s.want)
		}
		if got := r.Of(0); len(got) != 0 {
			t.Errorf("9.2: behind step %d, Of(0) is %v", i, got)
		}
	}
}

// Each choice of the slots that are empty.
func TestOfWithoutNone(t *testing.T) {
	for held := range 1 << maxSlots {
		w := twinOf(t, 2, maxSlots)
		var want []api.ID
		for slot := range maxSlots {
			if held>>slot&1 == 1 {
				w.set(t, 1, slot, own(1, slot))
				want = append(want, own(1, slot))
			}
		}
		if got := w.r.Of(1); !slices.Equal(got, want) {
			t.Fatalf("9.2: of the slots %b, Of is %v, not %v", held, got, want)
		}
		w.holds(t)
	}
}

func TestOfOfAMutatorThatIsNot(t *testing.T) {
	eachSize(func(mutators, slots int) {
		w := fullTwin(t, mutators, slots)
		for _, m := range outside(mutators) {
			if got := w.r.Of(m); len(got) != 0 {
				t.Fatalf("9.2: of %d mutators, Of(%d) is %v", mutators, m, got)
			}
		}
		w.holds(t)
	})
}

// By mutators first, then by slots; neither by their keys nor by when they
// were put, and each as often as it is held.
func TestAllIsOfOfAll(t *testing.T) {
	r := fresh(t, 3, 2)
	r.Set(2, 0, idB)
	r.Set(0, 1, idC)
	r.Set(2, 1, idA)
	r.Set(0, 0, idC)
	if got, want := r.All(), []api.ID{idC, idC, idB, idA}; !slices.Equal(got, want) {
		t.Errorf("9.2: All is %v, not %v", got, want)
	}
	r.Set(1, 1, idB)
	if got, want := r.All(), []api.ID{idC, idC, idB, idB, idA}; !slices.Equal(got, want) {
		t.Errorf("9.2: All is %v, not %v", got, want)
	}
	r.Set(0, 0, none)
	if got, want := r.All(), slices.Concat(r.Of(0), r.Of(1), r.Of(2)); !slices.Equal(got, want) || len(got) != 4 {
		t.Errorf("9.2: All is %v, not %v", got, want)
	}
}

func TestAllOfTheGreatest(t *testing.T) {
	w := fullTwin(t, maxMutators, maxSlots)
	var want []api.ID
	for m := range maxMutators {
		want = append(want, w.r.Of(m)...)
	}
	if got := w.r.All(); len(got) != maxMutators*maxSlots || !slices.Equal(got, want) {
		t.Errorf("9.2: All is %v, not %v", got, want)
	}
	if n := w.r.Count(none); n != 0 {
		t.Errorf("9.2: with all slots taken, Count of none is %d", n)
	}
}

func TestCountOfWhatIsHeldOften(t *testing.T) {
	r := fresh(t, maxMutators, maxSlots)
	n := 0
	for m := range maxMutators {
		for slot := range maxSlots {
			r.Set(m, slot, idA)
			n++
			if r.Count(idA) != n || r.Count(none) != maxMutators*maxSlots-n || r.Count(idB) != 0 {
				t.Fatalf("9.2: with %d slots, Count is %d, of none %d, of another %d", n, r.Count(idA), r.Count(none), r.Count(idB))
			}
		}
	}
	r.Set(0, 0, idB)
	r.Set(3, 7, idB)
	r.Set(3, 6, none)
	if r.Count(idA) != n-3 || r.Count(idB) != 2 || r.Count(none) != 1 {
		t.Errorf("9.2: Count is %d, %d, of none %d", r.Count(idA), r.Count(idB), r.Count(none))
	}
}

// An ID is held as a whole: one of the same node, or the same serial, is
// another one; so is one that no slot could hold.
func TestCountOfOthers(t *testing.T) {
	w := twinOf(t, 2, 3)
	w.set(t, 0, 1, idA)
	others := append([]api.ID{
		{Node: 3, Serial: 5}, {Node: 3, Serial: 3}, {Node: 4, Serial: 4}, {Node: 2, Serial: 4}, {Node: 4, Serial: 3},
		{Node: 3, Serial: 4 + 1<<32}, {Node: 3 + 1<<32, Serial: 4}, {Node: 0, Serial: 4}, {Node: 3, Serial: 0},
		{Node: 2, Serial: 4 + 1<<56}, {Node: 0, Serial: 4 + 3<<56},
		{Node: math.MinInt, Serial: math.MaxUint64},
	}, wrongIDs...)
	for _, x := range others {
		if n := w.r.Count(x); n != 0 {
			t.Errorf("9.2: Count(%v) is %d", x, n)
		}
	}
	w.holds(t)
}
