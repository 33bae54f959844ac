package table_test

import (
	"cmp"
	"math"
	"math/rand"
	"slices"
	"strconv"
	"testing"
)

// rounds goes on by After from k for some rounds: in each, every key is met
// once.
func rounds[K cmp.Ordered, V comparable](t *testing.T, w *twin[K, V], k K) {
	t.Helper()
	keys := w.keys()
	for turn := range 3 {
		var met []K
		from := k
		for range keys {
			n, ok := w.x.After(k)
			if !ok {
				t.Fatalf("6.3: of %v, After(%v) answered none", keys, k)
			}
			met = append(met, n)
			k = n
		}
		slices.Sort(met)
		if !slices.Equal(met, keys) {
			t.Fatalf("6.3: from %v on, in round %d, of %v these were met: %v", from, turn, keys, met)
		}
	}
	w.lists(t)
}

func TestARoundMeetsEachKeyFromAnyKey(t *testing.T) {
	for _, keys := range some([]int8{127, -128, 0, 1, -1, 64}) {
		w := loaded(t, 6, keys...)
		for _, k := range whole(int8(-128)) {
			rounds(t, w, k)
		}
	}
	for _, keys := range some([]uint8{128, 255, 0, 1, 254}) {
		w := loaded(t, 6, keys...)
		for _, k := range whole(uint8(0)) {
			rounds(t, w, k)
		}
	}
	for _, keys := range some([]string{"ab", "", "b", "a", "abc"}) {
		w := loaded(t, 6, keys...)
		for _, k := range []string{"", "\x00", "a", "aa", "ab", "abb", "abc", "abcd", "b", "c", "\xff"} {
			rounds(t, w, k)
		}
	}
}

// What was dropped ahead of a round isn't met; what was put is, once.
func TestARoundBehindPutsAndDrops(t *testing.T) {
	r := rand.New(rand.NewSource(6))
	w := twinOf[int, int](t, 12)
	for range 400 {
		k := r.Intn(20)
		if w.index(k) >= 0 && r.Intn(3) > 0 {
			w.drop(t, k, true)
		} else if len(w.rows) < w.most {
			w.put(t, k, r.Int(), true)
		}
		rounds(t, w, r.Intn(24)-2)
	}
}

// The entries stay, but their values don't: the round is the same.
func TestARoundWhileValuesChange(t *testing.T) {
	w := loaded(t, 5, 8, 2, 6, 0, 4)
	k := 5
	for i, want := range []int{6, 8, 0, 2, 4, 6, 8, 0, 2, 4} {
		n, ok := w.x.After(k)
		if n != want || !ok {
			t.Fatalf("6.3: After(%d) answered %d, %v, not %d", k, n, ok, want)
		}
		w.put(t, n, 100+i, true)
		w.put(t, 99, 1, false)
		w.drop(t, 99, false)
		k = n
	}
	w.holds(t)
}

// Whoever drops what it meets comes to the next, and to the end.
func TestARoundThatDropsWhatItMeets(t *testing.T) {
	for start := -1; start <= 11; start++ {
		w := loaded(t, 5, 0, 2, 4, 8, 10)
		k := start
		for size := 5; size > 0; size-- {
			n, ok := w.x.After(k)
			if want, _ := w.after(k); n != want || !ok {
				t.Fatalf("6.2: After(%d) answered %d, %v, not %d", k, n, ok, want)
			}
			w.drop(t, n, true)
			k = n
		}
		nothing(t, w, k)
	}
}

func TestARoundOfTheGreatestTable(t *testing.T) {
	numbers, texts := twinOf[int64, int](t, mostOfAll), twinOf[string, int](t, mostOfAll)
	for i := range mostOfAll {
		k := int64(i*prime%mostOfAll-mostOfAll/2) << 52
		numbers.x.Put(k, i)
		numbers.rows = append(numbers.rows, row[int64, int]{k, i})
		s := strconv.Itoa(i * prime % mostOfAll)
		texts.x.Put(s, i)
		texts.rows = append(texts.rows, row[string, int]{s, i})
	}
	for _, k := range []int64{math.MinInt64, -1, 0, 1, math.MaxInt64} {
		rounds(t, numbers, k)
	}
	for _, k := range []string{"", "2048", "20480", "9999", "a"} {
		rounds(t, texts, k)
	}
}
