package table_test

import (
	"cmp"
	"math"
	"slices"
	"testing"
)

// whole answers all numbers of 8 bits of a kind, from the least on.
func whole[K int8 | uint8](least K) []K {
	l := make([]K, 256)
	for i := range l {
		l[i] = least + K(i)
	}
	return l
}

// Some keys of a small kind, the least and the greatest among them, and Next
// and After of every key that the kind has.
func TestNextAndAfterOfEveryKey(t *testing.T) {
	for _, keys := range some([]int8{127, -128, 0, 1, -1, 64}) {
		loaded(t, 6, keys...).holds(t, whole(int8(-128))...)
	}
	for _, keys := range some([]uint8{128, 255, 0, 1, 254, 127}) {
		loaded(t, 6, keys...).holds(t, whole(uint8(0))...)
	}
}

// step is what Next and After of k must answer.
type step[K cmp.Ordered] struct {
	k     K
	next  K
	above bool
	after K
}

// steps holds Next and After of a table that isn't empty against what is asked.
func steps[K cmp.Ordered](t *testing.T, w *twin[K, int], all ...step[K]) {
	t.Helper()
	for _, s := range all {
		if n, ok := w.x.Next(s.k); n != s.next || ok != s.above {
			t.Errorf("6.2: of %v, Next(%v) answered %v, %v, not %v, %v", w.keys(), s.k, n, ok, s.next, s.above)
		}
		if n, ok := w.x.After(s.k); n != s.after || !ok {
			t.Errorf("6.2: of %v, After(%v) answered %v, %v, not %v, true", w.keys(), s.k, n, ok, s.after)
		}
	}
}

func TestNextAndAfterOfSome(t *testing.T) {
	steps(t, loaded(t, 3, 30, 10, 20),
		step[int]{math.MinInt, 10, true, 10},
		step[int]{-1, 10, true, 10},
		step[int]{0, 10, true, 10},
		step[int]{9, 10, true, 10},
		step[int]{10, 20, true, 20},
		step[int]{11, 20, true, 20},
		step[int]{19, 20, true, 20},
		step[int]{20, 30, true, 30},
		step[int]{25, 30, true, 30},
		step[int]{30, 0, false, 10},
		step[int]{31, 0, false, 10},
		step[int]{math.MaxInt, 0, false, 10})
}

func TestNextAndAfterOfOne(t *testing.T) {
	steps(t, loaded(t, 1, uint64(7)),
		step[uint64]{0, 7, true, 7},
		step[uint64]{6, 7, true, 7},
		step[uint64]{7, 0, false, 7},
		step[uint64]{8, 0, false, 7},
		step[uint64]{math.MaxUint64, 0, false, 7})
}

func TestNextAndAfterAtTheEndsOfAKind(t *testing.T) {
	steps(t, loaded(t, 2, math.MaxInt64, math.MinInt64),
		step[int]{math.MinInt64, math.MaxInt64, true, math.MaxInt64},
		step[int]{0, math.MaxInt64, true, math.MaxInt64},
		step[int]{math.MaxInt64 - 1, math.MaxInt64, true, math.MaxInt64},
		step[int]{math.MaxInt64, 0, false, math.MinInt64})
	steps(t, loaded[uint64](t, 2, math.MaxUint64, 0),
		step[uint64]{0, math.MaxUint64, true, math.MaxUint64},
		step[uint64]{1 << 63, math.MaxUint64, true, math.MaxUint64},
		step[uint64]{math.MaxUint64 - 1, math.MaxUint64, true, math.MaxUint64},
		step[uint64]{math.MaxUint64, 0, false, 0})
	steps(t, loaded(t, 2, "", "\xff\xff"),
		step[string]{"", "\xff\xff", true, "\xff\xff"},
		step[string]{"\xff", "\xff\xff", true, "\xff\xff"},
		step[string]{"\xff\xff", "", false, ""},
		step[string]{"\xff\xff\x00", "", false, ""})
}

// nothing asks a table without entries for k.
func nothing[K cmp.Ordered](t *testing.T, w *twin[K, int], k K) {
	t.Helper()
	var zero K
	if n, ok := w.x.First(); n != zero || ok {
		t.Errorf("6.2: First of none answered %v, %v", n, ok)
	}
	if n, ok := w.x.Next(k); n != zero || ok {
		t.Errorf("6.2: of none, Next(%v) answered %v, %v", k, n, ok)
	}
	if n, ok := w.x.After(k); n != zero || ok {
		t.Errorf("6.2: of none, After(%v) answered %v, %v", k, n, ok)
	}
	if v, ok := w.x.Get(k); v != 0 || ok {
		t.Errorf("6.1: of none, Get(%v) answered %v, %v", k, v, ok)
	}
}

func TestOfATableWithoutEntries(t *testing.T) {
	never, emptied := twinOf[int, int](t, 3), loaded(t, 3, 5, 3, 9)
	for _, k := range []int{3, 9, 5} {
		emptied.drop(t, k, true)
	}
	for _, k := range []int{math.MinInt, -1, 0, 3, 5, 9, math.MaxInt} {
		nothing(t, never, k)
		nothing(t, emptied, k)
	}
	texts := twinOf[string, int](t, 1)
	for _, k := range []string{"", "a", "\xff"} {
		nothing(t, texts, k)
	}
}

func TestFirstIsTheLeast(t *testing.T) {
	for _, keys := range orders([]int{-5, -1, 0, 4}) {
		w := twinOf[int, int](t, 4)
		for i, k := range keys {
			w.put(t, k, i, true)
			if got, ok := w.x.First(); got != slices.Min(keys[:i+1]) || !ok {
				t.Errorf("6.2: of %v, First answered %d, %v", keys[:i+1], got, ok)
			}
		}
		for i, k := range keys[:3] {
			w.drop(t, k, true)
			if got, ok := w.x.First(); got != slices.Min(keys[i+1:]) || !ok {
				t.Errorf("6.2: of %v, First answered %d, %v", keys[i+1:], got, ok)
			}
		}
	}
}

// A key that was put anew isn't met twice, and one that was dropped isn't met.
func TestNextBehindPutsAndDrops(t *testing.T) {
	w := loaded(t, 4, 1, 3, 5)
	w.put(t, 3, 9, true)
	w.put(t, 7, 9, true)
	steps(t, w, step[int]{1, 3, true, 3}, step[int]{3, 5, true, 5}, step[int]{5, 7, true, 7}, step[int]{7, 0, false, 1})
	w.drop(t, 3, true)
	steps(t, w, step[int]{1, 5, true, 5}, step[int]{3, 5, true, 5}, step[int]{5, 7, true, 7})
	w.drop(t, 7, true)
	steps(t, w, step[int]{1, 5, true, 5}, step[int]{5, 0, false, 1}, step[int]{7, 0, false, 1})
	w.drop(t, 1, true)
	steps(t, w, step[int]{1, 5, true, 5}, step[int]{5, 0, false, 5}, step[int]{7, 0, false, 5})
	w.put(t, 4, 9, true)
	steps(t, w, step[int]{1, 4, true, 4}, step[int]{4, 5, true, 5}, step[int]{5, 0, false, 4})
}

func TestAskingChangesNothing(t *testing.T) {
	for size := range 5 {
		w := loaded(t, 4, upTo(1, size)...)
		for range 3 {
			for k := -1; k <= size+1; k++ {
				w.holds(t, k)
			}
		}
		if size < 4 {
			w.put(t, 50, 1, true)
		}
		w.holds(t, 0, 51)
	}
}
