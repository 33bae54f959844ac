package heap_test

import (
	"math/rand"
	"slices"
	"testing"

	"mooring/api"
	"mooring/heap"
)

// play does steps as r picks them; it leans to Makes and to Frees by turns, so
// that the heap is often full and often empty.
func (w *twin) play(t *testing.T, r *rand.Rand, steps int) {
	t.Helper()
	for n := range steps {
		lean := 2 + 3*(n/60%2)
		switch k := r.Intn(10); {
		case k >= 2+lean:
			w.make(t, r.Intn(9)>>r.Intn(4), r.Intn(9)>>r.Intn(4))
		case k >= 2 && len(w.objects) > 0:
			w.free(t, w.pick(r).Serial)
		case k == 1 && len(w.objects) > 0:
			w.write(t, r, w.pick(r))
		default:
			w.refuses(t, r)
		}
		w.holds(t)
	}
}

// pick answers an object that is there.
func (w *twin) pick(r *rand.Rand) api.Object { return w.objects[r.Intn(len(w.objects))] }

// write writes something into o.
func (w *twin) write(t *testing.T, r *rand.Rand, o api.Object) {
	t.Helper()
	if n := len(o.Refs); n > 0 {
		w.setRef(t, o.Serial, r.Intn(n), rightIDs[r.Intn(len(rightIDs))])
	}
	if n := len(o.Vals); n > 0 {
		w.setVal(t, o.Serial, r.Intn(n), r.Uint64())
	}
	w.setIn(t, o.Serial, r.Intn(maxDist+1))
}

// refuses does what must be refused.
func (w *twin) refuses(t *testing.T, r *rand.Rand) {
	t.Helper()
	missing := w.missing()
	s := missing[r.Intn(len(missing))]
	w.noRef(t, s, r.Intn(9)-1)
	w.noVal(t, s, r.Intn(9)-1)
	if e := w.h.Free(s); e != api.ErrBadHandle {
		t.Fatalf("8.3: Free(%d) answered %d", s, e)
	}
	if e := w.h.SetIn(s, r.Intn(maxDist+1)); e != api.ErrBadHandle {
		t.Fatalf("8.2: SetIn(%d) answered %d", s, e)
	}
	if len(w.objects) > 0 {
		o := w.pick(r)
		w.noRef(t, o.Serial, len(o.Refs))
		w.noVal(t, o.Serial, len(o.Vals))
	}
}

func TestPlayedByManySeeds(t *testing.T) {
	lasts := []uint64{0, 5, 1 << 32, maxSerial - 40, maxSerial - 3, maxSerial}
	for seed := range int64(36) {
		r := rand.New(rand.NewSource(seed))
		w := twinOf(t, 1+int(seed), 16*(1+int(seed)%9), 1+int(seed*7)%maxObjects, lasts[seed%6])
		w.play(t, r, 250)
	}
}

// A heap whose objects are all freed goes on as a new one that begins with the
// serials behind.
func TestAllFreed(t *testing.T) {
	for seed := range int64(20) {
		r := rand.New(rand.NewSource(seed))
		w := twinOf(t, 2, 80, 12, 0)
		w.play(t, r, 100)
		for len(w.objects) > 0 {
			w.free(t, w.pick(r).Serial)
			w.holds(t)
		}
		n := twinOf(t, 2, 80, 12, w.last)
		for range 14 {
			refs, vals := r.Intn(8), r.Intn(8)
			w.make(t, refs, vals)
			n.make(t, refs, vals)
			if now, first := told(w.h), told(n.h); now != first {
				t.Fatalf("8.4: with all freed, a heap tells %s, not %s", now, first)
			}
		}
	}
}

func TestHeapsKnowNothingOfOneAnother(t *testing.T) {
	a, b := twinOf(t, 1, 16, 2, 0), twinOf(t, 1, 32, 3, 0)
	both := func() {
		t.Helper()
		a.holds(t)
		b.holds(t)
	}
	both()
	a.make(t, 2, 1)
	both()
	b.noRef(t, 1, 0)
	b.make(t, 2, 1)
	both()
	a.setRef(t, 1, 0, api.ID{Node: 2, Serial: 9})
	a.setVal(t, 1, 0, 5)
	a.setIn(t, 1, 7)
	both()
	b.make(t, 7, 7)
	a.refused(t, 7, 7, api.ErrOOM)
	both()
	o, _ := b.h.Object(1)
	spoilObject(&o)
	both()
	a.free(t, 1)
	both()
	if _, e := heap.New(1, 16, 0, 0); e != api.ErrArg {
		t.Errorf("8.1: New answered %d", e)
	}
	fresh(t, 1, 16, 2, 0).Make(1, 1)
	both()
}

func TestManyHeapsSideBySide(t *testing.T) {
	r := rand.New(rand.NewSource(7))
	var all []*twin
	for n := 1; n <= 6; n++ {
		all = append(all, twinOf(t, 1+n%3, 32*n, 5*n, uint64(n/2)))
	}
	for range 60 {
		all[r.Intn(len(all))].play(t, r, 5)
		for _, w := range all {
			w.holds(t)
		}
	}
}

// A map's order is another one each time: none of it is to be seen.
func TestTheSameAgain(t *testing.T) {
	run := func() []string {
		r := rand.New(rand.NewSource(5))
		w := twinOf(t, 4, 256, 40, 3)
		var l []string
		for range 15 {
			w.play(t, r, 20)
			l = append(l, told(w.h))
		}
		return l
	}
	first := run()
	for range 5 {
		if again := run(); len(first) == 0 || !slices.Equal(first, again) {
			t.Fatalf("R4: told the same, a heap tells %v, then %v", first, again)
		}
	}
}
