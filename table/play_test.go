package table_test

import (
	"math/rand"
	"slices"
	"strconv"
	"testing"
)

// play does steps on w as r picks them, with keys of a few; it leans to Puts
// and to Drops by turns, so that the table is often full and often empty.
func (w *twin[K, V]) play(t *testing.T, r *rand.Rand, keys []K, value func(int) V, steps int) {
	t.Helper()
	for step := range steps {
		k := keys[r.Intn(len(keys))]
		there := w.index(k) >= 0
		if lean := 3 + 4*(step/50%2); r.Intn(10) < lean {
			w.drop(t, k, there)
		} else {
			w.put(t, k, value(step), there || len(w.rows) < w.most)
		}
		w.lists(t)
		k = keys[r.Intn(len(keys))]
		w.get(t, k)
		w.goesOn(t, k)
	}
	w.holds(t, keys...)
}

// manyKeys answers all kinds of numbers, small ones and great ones.
func manyKeys(r *rand.Rand, size int) []uint64 {
	var l []uint64
	for range size {
		l = append(l, r.Uint64()>>r.Intn(64))
	}
	return l
}

// texts answers keys as texts of a few letters, of which many begin with
// another.
func texts(keys []uint64) []string {
	var l []string
	for _, k := range keys {
		l = append(l, strconv.FormatUint(k, 3))
	}
	return append(l, "")
}

func TestPlayedByManySeeds(t *testing.T) {
	for seed := range int64(60) {
		r := rand.New(rand.NewSource(seed))
		most := int(seed)%13 + 1
		keys := manyKeys(r, most+int(seed)%5)
		number := func(step int) int { return step }
		twinOf[uint64, int](t, most).play(t, r, keys, number, 500)
		twinOf[string, string](t, most).play(t, r, texts(keys), strconv.Itoa, 500)
		var signed []int64
		for _, k := range keys {
			signed = append(signed, int64(k))
		}
		twinOf[int64, int](t, most).play(t, r, signed, number, 500)
	}
}

func TestTheSameAgain(t *testing.T) {
	run := func() []uint64 {
		r := rand.New(rand.NewSource(5))
		w := twinOf[uint64, int](t, 6)
		var told []uint64
		for range 20 {
			w.play(t, r, manyKeys(r, 9), func(step int) int { return step }, 40)
			told = append(told, w.x.Keys()...)
		}
		return told
	}
	if first, second := run(), run(); len(first) == 0 || !slices.Equal(first, second) {
		t.Errorf("R4: told the same, a table answered %v, then %v", first, second)
	}
}
