package roots_test

import (
	"math"
	"slices"
	"testing"

	"mooring/api"
	"mooring/roots"
)

// The document's numbers a second time, so that a wrong one is met.
const (
	maxMutators = 4
	maxSlots    = 8
	maxNodes    = 64
	maxSerial   = 1<<56 - 1
)

var (
	none = api.ID{}

	// rightIDs are right, none among them.
	rightIDs = []api.ID{
		{Node: 3, Serial: 4}, {Node: 1, Serial: 1}, {Node: 1, Serial: maxSerial}, none,
		{Node: maxNodes, Serial: 1}, {Node: maxNodes, Serial: maxSerial}, {Node: 4, Serial: 3},
		{Node: 33, Serial: 1 << 32}, {Node: 2, Serial: maxSerial - 1}, {Node: maxNodes - 1, Serial: 2},
	}

	// wrongIDs are not right: by their node, by their serial, by both.
	wrongIDs = []api.ID{
		{Node: 0, Serial: 1}, {Node: 0, Serial: maxSerial}, {Node: 0, Serial: maxSerial + 1}, {Node: 0, Serial: math.MaxUint64},
		{Node: 1, Serial: 0}, {Node: 3, Serial: 0}, {Node: maxNodes, Serial: 0}, {Node: -1, Serial: 0}, {Node: maxNodes + 1, Serial: 0},
		{Node: math.MinInt, Serial: 0}, {Node: math.MaxInt, Serial: 0},
		{Node: -1, Serial: 1}, {Node: -1, Serial: maxSerial}, {Node: -3, Serial: 4}, {Node: math.MinInt, Serial: 1}, {Node: math.MinInt + 1, Serial: 1},
		{Node: maxNodes + 1, Serial: 1}, {Node: maxNodes + 2, Serial: maxSerial}, {Node: math.MaxInt, Serial: 1}, {Node: math.MaxInt - 1, Serial: 1},
		{Node: 1 << 8, Serial: 1}, {Node: 1<<8 + 3, Serial: 4}, {Node: 1 << 32, Serial: 1}, {Node: 1<<32 + 3, Serial: 4},
		{Node: 1, Serial: maxSerial + 1}, {Node: 3, Serial: maxSerial + 5}, {Node: maxNodes, Serial: maxSerial + 1},
		{Node: 2, Serial: 1 << 57}, {Node: 2, Serial: 1 << 63}, {Node: 2, Serial: math.MaxUint64 - 1}, {Node: 2, Serial: math.MaxUint64},
		{Node: -1, Serial: math.MaxUint64}, {Node: maxNodes + 1, Serial: maxSerial + 1}, {Node: math.MaxInt, Serial: math.MaxUint64},
	}
)

// outside answers places that are none where there are count.
func outside(count int) []int {
	return []int{
		math.MinInt, math.MinInt + 1, -1 << 32, -1<<32 + 1, -count - 1, -count, -2, -1,
		count, count + 1, 2 * count, 1 << 8, 1 << 16, 1 << 32, 1<<32 + 1, math.MaxInt - 1, math.MaxInt,
	}
}

// fresh answers roots that hold none.
func fresh(t *testing.T, mutators, slots int) *roots.Roots {
	t.Helper()
	r, e := roots.New(mutators, slots)
	if r == nil || e != api.OK {
		t.Fatalf("9.1: New(%d, %d) answered %v, %d", mutators, slots, r, e)
	}
	return r
}

// eachSize runs f with each count of mutators and of slots that may be.
func eachSize(f func(mutators, slots int)) {
	for mutators := 1; mutators <= maxMutators; mutators++ {
		for slots := 1; slots <= maxSlots; slots++ {
			f(mutators, slots)
		}
	}
}

// twin is roots, and beside them what each slot should hold, by its mutator
// and itself.
type twin struct {
	r               *roots.Roots
	mutators, slots int
	held            map[[2]int]api.ID
}

// twinOf answers a twin of roots that hold none.
func twinOf(t *testing.T, mutators, slots int) *twin {
	t.Helper()
	return &twin{r: fresh(t, mutators, slots), mutators: mutators, slots: slots, held: map[[2]int]api.ID{}}
}

// fullTwin answers a twin of which each slot holds an ID that no other holds.
func fullTwin(t *testing.T, mutators, slots int) *twin {
	t.Helper()
	w := twinOf(t, mutators, slots)
	w.each(func(m, slot int) { w.set(t, m, slot, own(m, slot)) })
	w.holds(t)
	return w
}

// own answers an ID that stands for one slot alone.
func own(m, slot int) api.ID { return api.ID{Node: 1 + m, Serial: 100 + uint64(slot)} }

// each runs f with each slot, in order.
func (w *twin) each(f func(m, slot int)) {
	for m := range w.mutators {
		for slot := range w.slots {
			f(m, slot)
		}
	}
}

// set is a Set that must go well.
func (w *twin) set(t *testing.T, m, slot int, x api.ID) {
	t.Helper()
	if !w.r.Set(m, slot, x) {
		t.Fatalf("9.1: of %d mutators with %d slots, Set(%d, %d, %v) answered false", w.mutators, w.slots, m, slot, x)
	}
	w.held[[2]int{m, slot}] = x
}

// refused is a Set that must answer false.
func (w *twin) refused(t *testing.T, m, slot int, x api.ID) {
	t.Helper()
	if w.r.Set(m, slot, x) {
		t.Fatalf("9.1: of %d mutators with %d slots, Set(%d, %d, %v) answered true", w.mutators, w.slots, m, slot, x)
	}
}

// of answers what Of should tell.
func (w *twin) of(m int) []api.ID {
	var l []api.ID
	for slot := range w.slots {
		if x := w.held[[2]int{m, slot}]; x != none {
			l = append(l, x)
		}
	}
	return l
}

// all answers what All should tell.
func (w *twin) all() []api.ID {
	var l []api.ID
	for m := range w.mutators {
		l = append(l, w.of(m)...)
	}
	return l
}

// count answers what Count should tell.
func (w *twin) count(x api.ID) int {
	n := 0
	w.each(func(m, slot int) {
		if w.held[[2]int{m, slot}] == x {
			n++
		}
	})
	return n
}

// holds holds all that the roots tell against what is asked.
func (w *twin) holds(t *testing.T) {
	t.Helper()
	w.each(func(m, slot int) {
		want := w.held[[2]int{m, slot}]
		if x, ok := w.r.Get(m, slot); x != want || !ok {
			t.Fatalf("9.1: Get(%d, %d) is %v, %v, not %v", m, slot, x, ok, want)
		}
	})
	for m := range w.mutators {
		if got := w.r.Of(m); !slices.Equal(got, w.of(m)) {
			t.Fatalf("9.2: Of(%d) is %v, not %v", m, got, w.of(m))
		}
	}
	if got := w.r.All(); !slices.Equal(got, w.all()) {
		t.Fatalf("9.2: All is %v, not %v", got, w.all())
	}
	w.counts(t)
}

// counts holds Count of many IDs against what is asked.
func (w *twin) counts(t *testing.T) {
	t.Helper()
	asked := map[api.ID]int{}
	for _, x := range slices.Concat(rightIDs, wrongIDs, w.all()) {
		asked[x] = w.r.Count(x)
	}
	sum := 0
	for x, n := range asked {
		if n != w.count(x) {
			t.Fatalf("9.2: Count(%v) is %d, not %d", x, n, w.count(x))
		}
		sum += n
	}
	if sum != w.mutators*w.slots {
		t.Fatalf("9.2: all counts add up to %d, not to the %d slots", sum, w.mutators*w.slots)
	}
}
