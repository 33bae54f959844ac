package cycle_test

import (
	"fmt"
	"math/rand"
	"slices"
	"testing"

	"mooring/api"
	"mooring/heap"
)

// randomID answers one of all kinds: mostly of the tests' node, also of others,
// none, and such as are not right.
func randomID(r *rand.Rand, count int, last uint64) api.ID {
	switch r.Intn(14) {
	case 0, 1:
		return far(4+r.Intn(3), 1+uint64(r.Intn(4)))
	case 2:
		return none
	case 3:
		return far(maxNodes+r.Intn(2), maxSerial+uint64(r.Intn(2)))
	}
	return own(last + uint64(r.Intn(count+2)))
}

// rightID answers one that a field may hold.
func rightID(r *rand.Rand, count int, last uint64) api.ID {
	x := randomID(r, count, last)
	if x.Node < 1 || x.Node > maxNodes || x.Serial < 1 || x.Serial > maxSerial {
		return none
	}
	return x
}

// randomThings answers so many objects of all kinds.
func randomThings(r *rand.Rand, count int, last uint64) []thing {
	var l []thing
	for range count {
		o := thing{in: max(0, r.Intn(14)-8)}
		for range r.Intn(4) {
			o.refs = append(o.refs, rightID(r, count, last))
		}
		l = append(l, o)
	}
	return l
}

// play does steps as r picks them: all that can be called, told truly or not.
func (w *twin) play(t *testing.T, r *rand.Rand, steps int) {
	t.Helper()
	count := int(w.b.Last()-w.first) + 1
	for range steps {
		m := r.Intn(w.mutators+3) - 1
		s := w.first + uint64(r.Intn(count+2))
		x, y := randomID(r, count, w.first), randomID(r, count, w.first)
		switch k := r.Intn(24); {
		case k < 9:
			w.step(t, uint64(r.Intn(100)))
		case k < 14:
			w.shake(t, m, []api.ID{x, y, randomID(r, count, w.first)}[:r.Intn(4)]...)
		case k < 16:
			w.store(t, m, x, y)
		case k < 17:
			w.born(t, m, s)
		case k < 19:
			w.touch(t, x)
		default:
			w.meddle(t, r, k-19)
		}
	}
}

// meddle does what somebody else may do, to both heaps.
func (w *twin) meddle(t *testing.T, r *rand.Rand, kind int) {
	t.Helper()
	count := int(w.b.Last()-w.first) + 1
	s := w.first + uint64(r.Intn(count+1))
	x, rank, field := rightID(r, count, w.first), max(0, r.Intn(14)-7), r.Intn(4)
	grown := randomThings(r, 1, w.first)[0]
	w.did("meddled ", kind, " ", s, x, rank, field, grown)
	w.both(func(h *heap.Heap) {
		switch kind {
		case 0, 1:
			if h.Len() < maxObjects && h.Last() < maxSerial {
				add(t, h, grown)
			}
		case 2:
			h.SetRef(s, field, x)
		case 3:
			h.SetIn(s, rank)
		default:
			if rank == 0 {
				h.Free(s)
			}
		}
	})
	w.holds(t)
}

func TestPlayedByManySeeds(t *testing.T) {
	lasts := []uint64{0, 5, 1 << 32, maxSerial - 12, maxSerial - 90}
	for seed := range int64(150) {
		r := rand.New(rand.NewSource(seed))
		last := lasts[seed%5]
		s := setting{1 + r.Intn(maxMutators), 1 + r.Intn(1+r.Intn(maxGrey)), r.Intn(1 + r.Intn(maxDist+1)), 1 + r.Intn(1+r.Intn(maxWork))}
		w := s.twin(t, last, randomThings(r, r.Intn(12), last)...)
		w.play(t, r, 500)
		w.ends(t)
	}
}

// Two collectors of two heaps know nothing of one another: what is done to one is
// not seen in the other.
func TestCollectorsKnowNothingOfOneAnother(t *testing.T) {
	things := []thing{held(2, own(3)), bare(), bare()}
	g, h := heapOf(t, 0, things...), heapOf(t, 0, things...)
	one, two := simple.collector(t, g), simple.collector(t, h)
	begins(t, one, 1, own(2))
	isNew(t, h, two)
	walks(t, g, one, "Marking: . 0 .", "Marking: 2g 0 .")
	arms(t, two, 1)
	one.Touch(far(2, 2))
	one.Store(0, own(3), none)
	shows(t, h, two, "with the other Marking", "Scanning: . . .")
	answers(t, two, 0)
	answers(t, two, 1)
	walks(t, h, two, "Marking: 2g . .", "Marking: 2 . 2g")
	if len(one.Outs()) != 1 || len(two.Outs()) != 0 {
		t.Errorf("R8: the Outs are %v and %v", one.Outs(), two.Outs())
	}
	if freed, _ := ends(t, two); !slices.Equal(freed, []uint64{2}) || g.Len() != 3 {
		t.Errorf("R8: %v were freed, and of the other %d stay", freed, g.Len())
	}
	shows(t, g, one, "with the other at its end", "Marking: 2g 0 0g")
	if freed, _ := ends(t, one); len(freed) != 0 || one.Turns() != 1 || one.Summary().Stir != 0 {
		t.Errorf("R8: %v were freed", freed)
	}
	shows(t, h, two, "with both at their end", "Idle: 2 x 2")
}

func TestManySideBySide(t *testing.T) {
	r := rand.New(rand.NewSource(7))
	var all []*twin
	for n := range 6 {
		s := setting{1 + n%maxMutators, 1 + n, n, 1 + n/2}
		all = append(all, s.twin(t, uint64(n/2), randomThings(r, 1+2*n, uint64(n/2))...))
	}
	for range 300 {
		all[r.Intn(len(all))].play(t, r, 5)
		for _, w := range all {
			w.holds(t)
		}
	}
	for _, w := range all {
		w.ends(t)
	}
}

// A map's order is another one each time: none of it is to be seen.
func TestTheSameAgain(t *testing.T) {
	run := func() []string {
		r := rand.New(rand.NewSource(5))
		h := heapOf(t, 0, randomThings(r, 40, 0)...)
		c := setting{2, 2, 2, 3}.collector(t, h)
		var l []string
		for n := range 300 {
			freed, over := c.Step(uint64(n))
			c.Shake(n%3, []api.ID{randomID(r, 40, 0), randomID(r, 40, 0)})
			c.Touch(randomID(r, 40, 0))
			l = append(l, fmt.Sprint(freed, over, told(h, c)))
		}
		return l
	}
	first := run()
	for range 5 {
		if again := run(); !slices.Equal(first, again) {
			t.Fatalf("R4: told the same, a collector tells\n%v\nthen\n%v", first, again)
		}
	}
}
