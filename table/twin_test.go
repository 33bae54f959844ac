package table_test

import (
	"cmp"
	"slices"
	"testing"

	"mooring/api"
	"mooring/table"
)

// The chapter's number a second time, so that a wrong one is met.
const mostOfAll = 4096

// Its multiples, up to a size that it doesn't divide, are all places out of
// order.
const prime = 2731

// fresh answers an empty table of at most most.
func fresh[K cmp.Ordered, V any](t *testing.T, most int) *table.Table[K, V] {
	t.Helper()
	x, e := table.New[K, V](most)
	if x == nil || e != api.OK {
		t.Fatalf("6.1: New(%d) answered %v, %d", most, x, e)
	}
	return x
}

// row is a key and its value.
type row[K cmp.Ordered, V any] struct {
	k K
	v V
}

// twin is a table, and beside it the same as it should be: rows as they came,
// looked through one by one.
type twin[K cmp.Ordered, V comparable] struct {
	x    *table.Table[K, V]
	most int
	rows []row[K, V]
}

// twinOf answers an empty twin of at most most.
func twinOf[K cmp.Ordered, V comparable](t *testing.T, most int) *twin[K, V] {
	t.Helper()
	return &twin[K, V]{x: fresh[K, V](t, most), most: most}
}

// loaded answers a twin of at most most with all of keys in it, each with its
// place as the value.
func loaded[K cmp.Ordered](t *testing.T, most int, keys ...K) *twin[K, int] {
	t.Helper()
	w := twinOf[K, int](t, most)
	for i, k := range keys {
		w.put(t, k, i, true)
	}
	w.holds(t)
	return w
}

// index answers the place of k among the rows, -1 without one.
func (w *twin[K, V]) index(k K) int {
	return slices.IndexFunc(w.rows, func(r row[K, V]) bool { return r.k == k })
}

// keys answers the keys that should be there, rising.
func (w *twin[K, V]) keys() []K {
	var l []K
	for _, r := range w.rows {
		l = append(l, r.k)
	}
	slices.Sort(l)
	return l
}

// least answers the least key that is fit, or the zero one and false.
func (w *twin[K, V]) least(fit func(k K) bool) (least K, ok bool) {
	for _, r := range w.rows {
		if fit(r.k) && (!ok || r.k < least) {
			least, ok = r.k, true
		}
	}
	return least, ok
}

func (w *twin[K, V]) first() (K, bool) {
	return w.least(func(K) bool { return true })
}

func (w *twin[K, V]) next(k K) (K, bool) {
	return w.least(func(n K) bool { return n > k })
}

func (w *twin[K, V]) after(k K) (K, bool) {
	if n, ok := w.next(k); ok {
		return n, ok
	}
	return w.first()
}

// put puts v, and holds the answer and Len against what is asked.
func (w *twin[K, V]) put(t *testing.T, k K, v V, want bool) {
	t.Helper()
	i := w.index(k)
	if fits := i >= 0 || len(w.rows) < w.most; fits != want {
		t.Fatalf("the test itself: Put(%v) into %d of %d should be %v", k, len(w.rows), w.most, fits)
	}
	if got := w.x.Put(k, v); got != want {
		t.Fatalf("6.1: Put(%v, %v) into %d of %d answered %v", k, v, len(w.rows), w.most, got)
	}
	switch {
	case i >= 0:
		w.rows[i].v = v
	case want:
		w.rows = append(w.rows, row[K, V]{k, v})
	}
	w.len(t)
}

// drop drops k, and holds the answer and Len against what is asked.
func (w *twin[K, V]) drop(t *testing.T, k K, want bool) {
	t.Helper()
	i := w.index(k)
	if there := i >= 0; there != want {
		t.Fatalf("the test itself: Drop(%v) should be %v", k, there)
	}
	if got := w.x.Drop(k); got != want {
		t.Fatalf("6.1: Drop(%v) of %d answered %v", k, len(w.rows), got)
	}
	if want {
		w.rows = slices.Delete(w.rows, i, i+1)
	}
	w.len(t)
}

// len holds Len alone against what is asked.
func (w *twin[K, V]) len(t *testing.T) {
	t.Helper()
	if n := w.x.Len(); n != len(w.rows) {
		t.Fatalf("6.1: Len is %d, not %d", n, len(w.rows))
	}
}

// get holds Get against what is asked.
func (w *twin[K, V]) get(t *testing.T, k K) {
	t.Helper()
	var want V
	i := w.index(k)
	if i >= 0 {
		want = w.rows[i].v
	}
	if v, ok := w.x.Get(k); v != want || ok != (i >= 0) {
		t.Fatalf("6.1: Get(%v) answered %v, %v, not %v, %v", k, v, ok, want, i >= 0)
	}
}

// goesOn holds Next and After of k against what is asked; k need not be a key.
func (w *twin[K, V]) goesOn(t *testing.T, k K) {
	t.Helper()
	want, there := w.next(k)
	if n, ok := w.x.Next(k); n != want || ok != there {
		t.Fatalf("6.2: of %v, Next(%v) answered %v, %v, not %v, %v", w.keys(), k, n, ok, want, there)
	}
	want, there = w.after(k)
	if n, ok := w.x.After(k); n != want || ok != there {
		t.Fatalf("6.2: of %v, After(%v) answered %v, %v, not %v, %v", w.keys(), k, n, ok, want, there)
	}
}

// lists holds Len, Keys and First against what is asked.
func (w *twin[K, V]) lists(t *testing.T) {
	t.Helper()
	w.len(t)
	if keys := w.x.Keys(); !slices.Equal(keys, w.keys()) {
		t.Fatalf("6.1: Keys is %v, not %v", keys, w.keys())
	}
	want, there := w.first()
	if k, ok := w.x.First(); k != want || ok != there {
		t.Fatalf("6.2: First answered %v, %v, not %v, %v", k, ok, want, there)
	}
}

// holds holds all that the table can tell of its own keys, and of others,
// against what is asked.
func (w *twin[K, V]) holds(t *testing.T, others ...K) {
	t.Helper()
	w.lists(t)
	for _, k := range slices.Concat(w.keys(), others) {
		w.get(t, k)
		w.goesOn(t, k)
	}
}

// upTo answers first to last, in order.
func upTo(first, last int) []int {
	var l []int
	for x := first; x <= last; x++ {
		l = append(l, x)
	}
	return l
}

// orders answers all orders of l.
func orders[T any](l []T) [][]T {
	if len(l) == 0 {
		return [][]T{nil}
	}
	var all [][]T
	for i := range l {
		rest := slices.Concat(l[:i], l[i+1:])
		for _, o := range orders(rest) {
			all = append(all, append([]T{l[i]}, o...))
		}
	}
	return all
}

// some answers all lists of some of l, in l's order.
func some[T any](l []T) [][]T {
	all := [][]T{nil}
	for _, x := range l {
		for _, s := range slices.Clone(all) {
			all = append(all, append(slices.Clone(s), x))
		}
	}
	return all
}
