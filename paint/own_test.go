package paint_test

import (
	"slices"
	"testing"

	"mooring/api"
	"mooring/heap"
)

// spoil writes over all of a list, its spare room too.
func spoil(l []api.Out) {
	whole := l[:cap(l)]
	for i := range whole {
		whole[i] = api.Out{ID: far(7, 7777), Rank: 17}
	}
}

// metTwins answers twins that have met none, one, some and many.
func metTwins(t *testing.T) []*twin {
	t.Helper()
	l := []*twin{twinWith(t)}
	for _, n := range []int{1, 2, 3, 5, len(farIDs)} {
		w := twinWith(t, farIDs[:min(n, maxFields)])
		w.shade(own(1), 4)
		w.scan(t, 1)
		for k, x := range farIDs[:n] {
			w.shade(x, k)
		}
		w.holds(t)
		l = append(l, w)
	}
	return l
}

func TestWhatIsToldIsItsOwners(t *testing.T) {
	for _, w := range metTwins(t) {
		spoil(w.p.Outs())
		w.holds(t)
		_ = append(w.p.Outs(), api.Out{ID: far(9, 9), Rank: 9})
		w.holds(t)
		w.shade(far(5, 5), 5)
		w.holds(t)
	}
}

func TestNoTwoAnswersShareAny(t *testing.T) {
	for _, w := range metTwins(t) {
		first, second := w.p.Outs(), w.p.Outs()
		spoil(first)
		if !slices.Equal(second, w.outs) {
			t.Fatalf("R2: writing into one answer turned another into %v", second)
		}
	}
}

// What was told stays so while the paint goes on.
func TestAnEarlierAnswerStaysAsItWas(t *testing.T) {
	for _, w := range metTwins(t) {
		told := w.p.Outs()
		as := slices.Clone(told)
		stays := func() {
			t.Helper()
			w.p.Outs()
			if !slices.Equal(told, as) {
				t.Fatalf("R2: what was told as %v is now %v", as, told)
			}
		}
		for _, x := range farIDs {
			w.shade(x, 0)
			stays()
		}
		w.turn()
		stays()
		w.shade(far(1, 1), 33)
		w.holds(t)
		stays()
	}
}

// Asking changes nothing, however often and for whatever.
func TestAskingChangesNothing(t *testing.T) {
	w := twinOf(t, heapOf(t, []api.ID{own(2), own(3), far(2, 7)}, nil, nil, nil), 1)
	w.shade(own(1), 3)
	w.scan(t, 1)
	w.blacken(4)
	for range 3 {
		w.holds(t)
	}
	w.rest()
	w.holds(t)
	w.drains(t)
}

func TestPaintsOfOneHeapKnowNothingOfOneAnother(t *testing.T) {
	h := heapOf(t, []api.ID{own(2), far(2, 7)}, []api.ID{own(1)}, nil, nil)
	a, b := twinOf(t, h, 1), twinOf(t, h, 2)
	apart(t, a, b)
	a.free(t, 4)
	a.holds(t)
	b.holds(t)
}

func TestPaintsOfTwoHeapsKnowNothingOfOneAnother(t *testing.T) {
	lists := [][]api.ID{{own(2), far(2, 7)}, {own(1)}, nil, nil}
	a, b := twinOf(t, heapOf(t, lists...), 1), twinOf(t, heapOf(t, lists...), 2)
	apart(t, a, b)
	a.shade(own(4), 2)
	b.shade(own(4), 3)
	a.free(t, 4)
	a.holds(t)
	b.holds(t)
	if _, _, ok := b.p.Mark(4); !ok {
		t.Error("R8: an object of one heap was freed, and one of another is not marked any more")
	}
}

// apart does with a, and then with b, all that a paint can do, and looks at
// both each time.
func apart(t *testing.T, a, b *twin) {
	t.Helper()
	both := func() {
		t.Helper()
		a.holds(t)
		b.holds(t)
	}
	for range 2 {
		for _, w := range []*twin{a, b} {
			w.turn()
			both()
			w.shade(own(1), 5)
			both()
			w.shade(far(4, 3), 6)
			both()
			w.scan(t, 1)
			both()
			w.blacken(3)
			both()
			w.shade(own(2), 1)
			w.scan(t, 2)
			both()
			w.forget(3)
			both()
			spoil(w.p.Outs())
			both()
		}
		a.pop(t)
		both()
		b.rest()
		both()
		b.pop(t)
		a.rest()
		both()
	}
}

// One that is local to the one paint may be remote to the other.
func TestPaintsOfTwoNodes(t *testing.T) {
	h, e := heap.New(4, 32, 2, 0)
	if e != api.OK {
		t.Fatalf("the test itself: no heap: %d", e)
	}
	h.Make(1, 0)
	h.SetRef(1, 0, own(1))
	a, b := twinWith(t, []api.ID{far(4, 1)}), twinOf(t, h, 3)
	for _, w := range []*twin{a, b} {
		w.shade(own(1), 3)
		w.shade(far(4, 1), 2)
		w.scan(t, 1)
	}
	a.holds(t)
	b.holds(t)
	if !a.is(1, 3, false) || !b.is(1, 2, false) || len(a.p.Outs()) != 1 || len(b.p.Outs()) != 1 {
		t.Errorf("11.2: of two nodes, Outs are %v and %v", a.p.Outs(), b.p.Outs())
	}
}
