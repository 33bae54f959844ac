package table_test

import (
	"slices"
	"testing"
)

// spoil writes x over all of l, its spare room too.
func spoil[T any](l []T, x T) {
	whole := l[:cap(l)]
	for i := range whole {
		whole[i] = x
	}
}

func TestKeysRiseWhateverTheOrder(t *testing.T) {
	keys := []int{-7, 0, 3, 8, 20}
	for _, in := range orders(keys) {
		for _, out := range orders(keys) {
			w := twinOf[int, int](t, len(keys))
			for i, k := range in {
				w.put(t, k, i, true)
				w.lists(t)
			}
			for _, k := range out {
				w.drop(t, k, true)
				w.lists(t)
			}
		}
	}
}

func TestValuesStayWithTheirKeys(t *testing.T) {
	keys := []int{-7, 0, 3, 8}
	for _, in := range orders(keys) {
		for _, out := range orders(keys) {
			w := twinOf[int, int](t, len(keys))
			for i, k := range in {
				w.put(t, k, 100+i, true)
				w.holds(t, keys...)
			}
			for i, k := range out {
				w.drop(t, k, true)
				w.holds(t, keys...)
				w.put(t, k, 200+i, true)
				w.holds(t, keys...)
				w.drop(t, k, true)
			}
		}
	}
}

func TestKeysOfAnEmptyTable(t *testing.T) {
	w := twinOf[string, int](t, 3)
	if keys := w.x.Keys(); len(keys) != 0 || w.x.Len() != 0 {
		t.Errorf("6.1: Keys of none is %q, Len %d", keys, w.x.Len())
	}
	w.put(t, "a", 1, true)
	w.drop(t, "a", true)
	if keys := w.x.Keys(); len(keys) != 0 || w.x.Len() != 0 {
		t.Errorf("6.1: Keys of a table that was emptied is %q, Len %d", keys, w.x.Len())
	}
}

func TestWhatKeysAnswersIsItsOwners(t *testing.T) {
	for size := 0; size <= 5; size++ {
		w := loaded(t, 5, upTo(1, size)...)
		spoil(w.x.Keys(), -1)
		w.holds(t, -1, 0)
		spoil(append(w.x.Keys(), -2), -3)
		w.holds(t, -3, 0)
		slices.Reverse(w.x.Keys())
		w.holds(t, 0)
		if size < 5 {
			w.put(t, 9, 9, true)
			w.holds(t, -1, 0)
		}
	}
}

// The table has room to spare behind a Drop: what Keys answers has none of it.
func TestKeysSharesNoSpareRoom(t *testing.T) {
	for left := 0; left < 6; left++ {
		w := loaded(t, 6, upTo(1, 6)...)
		for k := 6; k > left; k-- {
			w.drop(t, k, true)
		}
		keys := w.x.Keys()
		spoil(append(keys, -1), -2)
		spoil(keys, -3)
		for k := left + 1; k <= 6; k++ {
			w.put(t, k, -k, true)
			spoil(keys, -4)
			w.holds(t, 0, 7)
		}
	}
}

func TestTwoAnswersOfKeysShareNothing(t *testing.T) {
	for size := 0; size <= 3; size++ {
		w := loaded(t, 3, upTo(1, size)...)
		first, second := w.x.Keys(), w.x.Keys()
		spoil(first, -1)
		if !slices.Equal(second, upTo(1, size)) {
			t.Errorf("R2: with another answer written over, Keys' is %v", second)
		}
		room := second[len(second):cap(second)]
		if slices.Contains(room, -1) {
			t.Errorf("R2: two answers of Keys share spare room: %v", room)
		}
	}
}

func TestWhatKeysAnsweredStaysAsTheTableGoesOn(t *testing.T) {
	w := twinOf[int, int](t, 4)
	none := w.x.Keys()
	for _, k := range []int{2, 4, 6} {
		w.put(t, k, k, true)
	}
	three := w.x.Keys()
	w.put(t, 1, 1, true)
	full := w.x.Keys()
	w.drop(t, 2, true)
	w.drop(t, 1, true)
	two := w.x.Keys()
	for k := 10; k < 50; k++ {
		w.put(t, k, k, true)
		w.put(t, -k, k, true)
		w.drop(t, k, true)
		w.drop(t, -k, true)
	}
	w.drop(t, 4, true)
	got := [][]int{none, three, full, two, w.x.Keys()}
	for i, want := range [][]int{{}, {2, 4, 6}, {1, 2, 4, 6}, {4, 6}, {6}} {
		if !slices.Equal(got[i], want) {
			t.Errorf("R2: Keys answered %v, and this is now %v", want, got[i])
		}
	}
}
