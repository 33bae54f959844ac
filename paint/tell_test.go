package paint_test

import (
	"slices"
	"testing"

	"mooring/api"
)

func TestMarkOfOneThatWasFreed(t *testing.T) {
	w := twinWith(t, []api.ID{own(2)}, nil, nil)
	w.shade(own(1), 3)
	w.scan(t, 1)
	w.blacken(3)
	for s := uint64(1); s <= 3; s++ {
		w.free(t, s)
		if rank, grey, ok := w.p.Mark(s); rank != 0 || grey || ok {
			t.Errorf("11.4: one that was freed behind its mark: Mark(%d) answered %d, %v, %v", s, rank, grey, ok)
		}
		w.holds(t)
	}
	for s := uint64(1); s <= 3; s++ {
		w.shade(own(s), 0)
		w.blacken(s)
		w.scan(t, s)
		w.holds(t)
	}
	if got := w.pops(t); !slices.Equal(got, []uint64{2, 1}) {
		t.Errorf("11.3: behind Frees, the stack held %v", got)
	}
}

func TestMarkOfNone(t *testing.T) {
	w := twinWith(t, nil, nil)
	w.shade(own(1), 3)
	w.shade(far(2, 2), 3)
	for _, s := range w.serials() {
		if rank, grey, ok := w.p.Mark(s); s != 1 && (rank != 0 || grey || ok) {
			t.Errorf("11.4: Mark(%d) of none that is marked answered %d, %v, %v", s, rank, grey, ok)
		}
	}
}

func TestMetOfOthers(t *testing.T) {
	w := twinWith(t, nil, nil)
	w.shade(own(1), 3)
	w.blacken(2)
	w.shade(far(2, 7), 3)
	w.shade(own(maxSerial), 3)
	for _, x := range slices.Concat(farIDs, wrongIDs, []api.ID{none, own(1), own(2), own(3), own(maxSerial)}) {
		rank, ok := w.p.Met(x)
		if x == far(2, 7) {
			if rank != 3 || !ok {
				t.Errorf("11.4: Met({2 7}) answered %d, %v", rank, ok)
			}
			continue
		}
		if rank != 0 || ok {
			t.Errorf("11.4: Met(%v) of none that was met answered %d, %v", x, rank, ok)
		}
	}
}

// A rank of 0 is a rank: what was met with it was met.
func TestMetWithZero(t *testing.T) {
	w := twinWith(t)
	w.shade(far(2, 7), 0)
	if rank, ok := w.p.Met(far(2, 7)); rank != 0 || !ok || len(w.p.Outs()) != 1 {
		t.Errorf("11.4: met with 0, Met answered %d, %v", rank, ok)
	}
}

// Whatever order they are met in.
func TestOutsRise(t *testing.T) {
	for step := range len(farIDs) {
		w := twinWith(t)
		for k := range farIDs {
			w.shade(farIDs[(step+k*5)%len(farIDs)], k)
		}
		w.holds(t)
		var got []api.ID
		for _, o := range w.p.Outs() {
			got = append(got, o.ID)
		}
		if !slices.Equal(got, farIDs) {
			t.Errorf("11.4: Outs tells %v, not %v", got, farIDs)
		}
	}
}

func TestForgetTakesTheMarkAlone(t *testing.T) {
	w := twinWith(t, []api.ID{own(2), far(2, 7)}, nil, nil)
	w.shade(own(1), 3)
	w.scan(t, 1)
	w.blacken(3)
	w.forget(2)
	if _, _, ok := w.p.Mark(2); ok || w.p.Waiting() != 2 || !w.is(1, 3, false) {
		t.Errorf("11.4: behind Forget(2), Waiting is %d", w.p.Waiting())
	}
	w.holds(t)
	w.forget(3)
	w.forget(1)
	w.holds(t)
	if len(w.p.Outs()) != 1 {
		t.Errorf("11.4: Forget took what was met: %v", w.p.Outs())
	}
	if got := w.pops(t); !slices.Equal(got, []uint64{2, 1}) {
		t.Errorf("11.4: behind Forget, the stack held %v", got)
	}
}

// One that was Forgotten is as one that never was marked: any rank marks it,
// and it is pushed, also if it stands on the stack.
func TestForgottenIsAsNeverMarked(t *testing.T) {
	w := twinWith(t, nil, nil)
	w.shade(own(1), 3)
	w.forget(1)
	w.shade(own(1), 30)
	if !w.is(1, 30, true) || w.p.Waiting() != 2 {
		t.Errorf("11.4: Forgotten, then Shaded with 30: Waiting is %d", w.p.Waiting())
	}
	w.holds(t)
	w.forget(1)
	w.blacken(1)
	if !w.is(1, 0, false) {
		t.Error("11.4: Forgotten, then Blackened: it is not marked with 0")
	}
	w.drains(t)
}

func TestForgetOfNone(t *testing.T) {
	w := twinOf(t, heapOf(t, nil, nil, nil), 1)
	w.shade(own(1), 3)
	w.shade(own(3), 3)
	w.shade(far(2, 7), 3)
	for _, s := range w.serials() {
		if s != 1 && s != 3 {
			w.forget(s)
		}
	}
	w.forget(7)
	w.holds(t)
	w.drains(t)
}

// What is Forgotten behind its Free, as a sweeper does, is gone for good.
func TestForgetOfOneThatWasFreed(t *testing.T) {
	w := twinWith(t, nil, nil)
	w.shade(own(1), 3)
	w.free(t, 1)
	w.forget(1)
	w.shade(own(1), 0)
	w.holds(t)
	w.drains(t)
}

func TestTurnBeginsAnew(t *testing.T) {
	w := twinOf(t, heapOf(t, []api.ID{own(2), own(3), far(2, 7)}, nil, nil, nil), 1)
	for n := uint64(1); n <= 5; n++ {
		w.turn()
		if w.p.Turns() != n || w.p.Waiting() != 0 || w.p.Over() || len(w.p.Outs()) != 0 {
			t.Errorf("11.1: behind %d Turns, Turns is %d, Waiting %d, Over %v, Outs %v", n, w.p.Turns(), w.p.Waiting(), w.p.Over(), w.p.Outs())
		}
		w.holds(t)
		w.shade(own(1), 3+int(n))
		w.scan(t, 1)
		w.blacken(4)
		if !w.p.Over() || !w.is(1, 3+int(n), false) || !w.is(3, 3+int(n), true) {
			t.Errorf("11.1: in the turn %d, a rank of another turn is seen", n)
		}
		w.holds(t)
	}
	w.turn()
	w.drains(t)
}

// A turn follows the one ahead of it as a new paint would, whatever was in it.
func TestATurnIsAsANewPaint(t *testing.T) {
	h := heapOf(t, []api.ID{own(2), own(3), far(2, 7)}, []api.ID{own(1)}, nil)
	w, n := twinOf(t, h, 2), twinOf(t, h, 2)
	for s := uint64(1); s <= 3; s++ {
		w.shade(own(s), 0)
	}
	w.turn()
	n.turn()
	for _, v := range []*twin{w, n} {
		v.shade(own(2), 9)
		v.scan(t, 2)
		v.scan(t, 1)
	}
	if now, then := told(h, w.p), told(h, n.p); now != then {
		t.Errorf("11.1: a turn tells %s, a new paint %s", now, then)
	}
	w.drains(t)
}
