package roots_test

import (
	"testing"

	"mooring/api"
)

func TestEachSlotHoldsWhatWasPut(t *testing.T) {
	eachSize(func(mutators, slots int) {
		w := twinOf(t, mutators, slots)
		w.each(func(m, slot int) {
			w.set(t, m, slot, own(m, slot))
			w.holds(t)
		})
		w.each(func(m, slot int) {
			w.set(t, m, slot, none)
			w.holds(t)
		})
	})
}

// No slot leans on another one: with all others empty, and with all others
// full.
func TestEachSlotByItself(t *testing.T) {
	x := api.ID{Node: 9, Serial: 9}
	empty, full := twinOf(t, maxMutators, maxSlots), fullTwin(t, maxMutators, maxSlots)
	empty.each(func(m, slot int) {
		empty.set(t, m, slot, x)
		empty.holds(t)
		empty.set(t, m, slot, none)
		empty.holds(t)
		full.set(t, m, slot, none)
		full.holds(t)
		full.set(t, m, slot, x)
		full.holds(t)
		full.set(t, m, slot, own(m, slot))
		full.holds(t)
	})
}

func TestASlotHoldsWhatWasPutLast(t *testing.T) {
	w := twinOf(t, 2, 3)
	w.each(func(m, slot int) {
		for _, x := range rightIDs {
			for _, y := range rightIDs {
				w.set(t, m, slot, x)
				w.set(t, m, slot, y)
				if got, ok := w.r.Get(m, slot); got != y || !ok {
					t.Fatalf("9.1: Get(%d, %d) is %v, %v, not %v", m, slot, got, ok, y)
				}
			}
		}
		w.holds(t)
	})
}

func TestASlotKeepsWhatItHolds(t *testing.T) {
	w := fullTwin(t, 2, 2)
	for range 3 {
		w.holds(t)
		w.set(t, 1, 0, own(1, 0))
	}
	w.holds(t)
}

func TestSetOfEachNodeAndSerial(t *testing.T) {
	w := twinOf(t, 1, 1)
	serials := []uint64{0, 1, 2, 1 << 31, 1 << 32, 1 << 55, maxSerial - 1, maxSerial, maxSerial + 1, 1 << 57, 1<<57 - 1, 1 << 63}
	for node := -2; node <= 4*maxNodes+4; node++ {
		for _, s := range serials {
			x := api.ID{Node: node, Serial: s}
			if x == none || node >= 1 && node <= maxNodes && s >= 1 && s <= maxSerial {
				w.set(t, 0, 0, x)
			} else {
				w.refused(t, 0, 0, x)
			}
			if got, ok := w.r.Get(0, 0); got != w.held[[2]int{0, 0}] || !ok {
				t.Fatalf("9.1: behind Set of %v, Get is %v, %v", x, got, ok)
			}
		}
	}
	w.holds(t)
}

func TestSetOfWhatIsNotRight(t *testing.T) {
	for _, w := range []*twin{twinOf(t, 3, 2), fullTwin(t, 2, 4)} {
		for _, x := range wrongIDs {
			w.each(func(m, slot int) { w.refused(t, m, slot, x) })
			w.holds(t)
		}
	}
}

// Objects of a name need not be there, and many slots may hold one.
func TestSetAsksForNothingElse(t *testing.T) {
	w := twinOf(t, maxMutators, maxSlots)
	for _, x := range rightIDs {
		w.each(func(m, slot int) { w.set(t, m, slot, x) })
		w.holds(t)
	}
}

// absent is a slot that must not be there, whatever is put.
func (w *twin) absent(t *testing.T, m, slot int) {
	t.Helper()
	if x, ok := w.r.Get(m, slot); x != none || ok {
		t.Fatalf("9.1: of %d mutators with %d slots, Get(%d, %d) answered %v, %v", w.mutators, w.slots, m, slot, x, ok)
	}
	for _, x := range rightIDs {
		w.refused(t, m, slot, x)
	}
	for _, x := range wrongIDs {
		w.refused(t, m, slot, x)
	}
}

func TestSlotsThatAreNot(t *testing.T) {
	for _, size := range [][2]int{{1, 1}, {2, 2}, {1, maxSlots}, {maxMutators, 1}, {3, 5}, {maxMutators, maxSlots}} {
		for _, w := range []*twin{twinOf(t, size[0], size[1]), fullTwin(t, size[0], size[1])} {
			for m := range w.mutators {
				for _, slot := range outside(w.slots) {
					w.absent(t, m, slot)
				}
				w.holds(t)
			}
		}
	}
}

func TestSlotsOfMutatorsThatAreNot(t *testing.T) {
	for _, size := range [][2]int{{1, 1}, {2, 2}, {1, maxSlots}, {maxMutators, 1}, {3, 5}, {maxMutators, maxSlots}} {
		for _, w := range []*twin{twinOf(t, size[0], size[1]), fullTwin(t, size[0], size[1])} {
			for _, m := range outside(w.mutators) {
				for slot := range w.slots {
					w.absent(t, m, slot)
				}
				for _, slot := range outside(w.slots) {
					w.absent(t, m, slot)
				}
			}
			w.holds(t)
		}
	}
}

// The slot behind a mutator's last one is not the next one's first, and the
// one ahead of its first not the last of the one before.
func TestAMutatorsSlotsAreItsOwn(t *testing.T) {
	w := fullTwin(t, 3, 4)
	for m := range 3 {
		w.absent(t, m, 4)
		w.absent(t, m, -1)
		w.set(t, m, 3, api.ID{Node: 9, Serial: 1 + uint64(m)})
		w.set(t, m, 0, api.ID{Node: 8, Serial: 1 + uint64(m)})
		w.holds(t)
	}
	for slot := range 4 {
		w.set(t, 1, slot, none)
		w.holds(t)
	}
	if len(w.r.Of(0)) != 4 || len(w.r.Of(1)) != 0 || len(w.r.Of(2)) != 4 {
		t.Errorf("9.2: with one mutator empty, Of is %v, %v, %v", w.r.Of(0), w.r.Of(1), w.r.Of(2))
	}
}
