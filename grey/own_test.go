package grey_test

import (
	"slices"
	"testing"

	"mooring/api"
	"mooring/grey"
)

// spoil writes x over all of l, its spare room too.
func spoil[T any](l []T, x T) {
	whole := l[:cap(l)]
	for i := range whole {
		whole[i] = x
	}
}

// eachTwin runs f with stacks of every kind: from empty to full, over or not,
// some with places above the top that were taken once.
func eachTwin(t *testing.T, f func(w *twin[int])) {
	t.Helper()
	for _, most := range []int{1, 2, 3, 5, 8, maxGrey} {
		for size := 0; size <= most; size++ {
			f(twinOf(t, most, upTo(1, size)...))
			f(overTwin(t, most, size))
		}
		w := overTwin(t, most, most)
		w.clear(t)
		f(w)
	}
}

func TestAllChangesNothing(t *testing.T) {
	eachTwin(t, func(w *twin[int]) {
		for range 3 {
			w.s.All()
			w.s.Len()
			w.s.Over()
			w.holds(t)
		}
		w.push(t, 70)
		w.s.All()
		w.drains(t)
	})
}

// Written into, or grown, an answer is no part of the stack: neither of what
// is on it, nor of what comes onto it.
func TestWhatAllAnswersIsItsOwners(t *testing.T) {
	eachTwin(t, func(w *twin[int]) {
		spoil(w.s.All(), -1)
		w.holds(t)
		spoil(append(w.s.All(), -2), -3)
		w.holds(t)
		all := w.s.All()
		w.push(t, 70)
		spoil(all, -4)
		w.holds(t)
		w.drains(t)
		spoil(all, -5)
		w.holds(t)
		w.push(t, 71)
		spoil(all, -6)
		w.holds(t)
	})
}

func TestTwoAnswersOfAllShareNothing(t *testing.T) {
	eachTwin(t, func(w *twin[int]) {
		first, second := w.s.All(), w.s.All()
		spoil(first, -1)
		if !slices.Equal(second, w.held) {
			t.Fatalf("R2: with another answer written over, All's is %v", second)
		}
		if room := second[len(second):cap(second)]; slices.Contains(room, -1) {
			t.Fatalf("R2: two answers of All share spare room: %v", room)
		}
	})
}

// What was told stays so while the stack goes down, up and over.
func TestWhatAllAnsweredStaysAsTheStackGoesOn(t *testing.T) {
	eachTwin(t, func(w *twin[int]) {
		told := w.s.All()
		as := slices.Clone(told)
		stays := func() {
			t.Helper()
			if !slices.Equal(told, as) {
				t.Fatalf("R2: what was told as %v is now %v", as, told)
			}
		}
		for turn := range 2 {
			for x := range w.most + 1 {
				w.push(t, 100*(turn+1)+x)
				stays()
			}
			for range w.most + 1 {
				w.pop(t)
				stays()
			}
		}
		w.push(t, 300)
		w.clear(t)
		stays()
		w.push(t, 301)
		stays()
	})
}

func TestStacksKnowNothingOfOneAnother(t *testing.T) {
	a, b, c := twinOf[int](t, 2), twinOf[int](t, 3), twinOf(t, 2, 1, 2)
	all := func() {
		t.Helper()
		a.holds(t)
		b.holds(t)
		c.holds(t)
	}
	a.push(t, 1)
	all()
	c.push(t, 3)
	all()
	b.pop(t)
	b.push(t, 10)
	all()
	a.push(t, 2)
	a.push(t, 3)
	all()
	c.rest(t)
	all()
	b.push(t, 11)
	b.push(t, 12)
	spoil(a.s.All(), -1)
	all()
	b.push(t, 13)
	a.rest(t)
	all()
	c.clear(t)
	all()
	a.pop(t)
	all()
	fresh[int](t, 2).Push(9)
	if s, e := grey.New[int](0); s != nil || e != api.ErrArg {
		t.Errorf("10.1: New(0) answered %v, %d", s, e)
	}
	all()
	a.drains(t)
	b.drains(t)
	all()
}

// What one answers can be pushed onto another, and neither hangs on it.
func TestWhatOneAnswersCanBePushedOntoAnother(t *testing.T) {
	a, b := twinOf(t, 5, upTo(1, 5)...), twinOf[int](t, 5)
	l := a.s.All()
	for _, x := range l {
		b.push(t, x)
	}
	spoil(l, -1)
	a.holds(t)
	b.holds(t)
	b.drains(t)
	a.holds(t)
}
