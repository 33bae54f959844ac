package roots_test

import (
	"math"
	"slices"
	"testing"

	"mooring/api"
	"mooring/roots"
)

func TestTheChaptersExamples(t *testing.T) {
	if r, e := roots.New(1, 9); r != nil || e != api.ErrArg {
		t.Errorf("9.1: New(1, 9) answered %v, %d", r, e)
	}
	r := fresh(t, 2, 2)
	x := api.ID{Node: 3, Serial: 4}
	if !r.Set(1, 1, x) || r.Set(2, 0, x) {
		t.Error("9.1: Set(1, 1) answered false, or Set(2, 0) true")
	}
	if got, ok := r.Get(1, 1); got != x || !ok {
		t.Errorf("9.1: Get(1, 1) answered %v, %v", got, ok)
	}
	if got := r.Of(1); !slices.Equal(got, []api.ID{x}) {
		t.Errorf("9.2: Of(1) answered %v", got)
	}
	if got := r.All(); !slices.Equal(got, []api.ID{x}) {
		t.Errorf("9.2: All answered %v", got)
	}
	if n, empty := r.Count(x), r.Count(none); n != 1 || empty != 3 {
		t.Errorf("9.2: Count answered %d, of none %d", n, empty)
	}
}

// The error and the limits are numbers that the document names.
func TestTheNumbers(t *testing.T) {
	if api.OK != 0 || api.ErrArg != 1 {
		t.Error("9: the errors are other numbers")
	}
	if api.MaxMutators != maxMutators || api.MaxSlots != maxSlots || api.MaxNodes != maxNodes || api.MaxSerial != maxSerial {
		t.Error("9: the limits are other numbers")
	}
}

// someCounts are counts of mutators and of slots, such as may be and others.
func someCounts() []int {
	l := []int{
		math.MinInt, math.MinInt + 1, math.MinInt + 4, math.MinInt32, -1 << 32, -1<<32 + 1,
		1 << 8, 1<<8 + 1, 1 << 16, 1<<16 + 1, 1 << 32, 1<<32 + 1, math.MaxInt32, math.MaxInt - 1, math.MaxInt,
	}
	for n := -20; n <= 80; n++ {
		l = append(l, n)
	}
	return l
}

func TestNewOfEveryCount(t *testing.T) {
	took := 0
	for _, mutators := range someCounts() {
		for _, slots := range someCounts() {
			if mutators >= 1 && mutators <= maxMutators && slots >= 1 && slots <= maxSlots {
				fresh(t, mutators, slots)
				took++
				continue
			}
			if r, e := roots.New(mutators, slots); r != nil || e != api.ErrArg {
				t.Errorf("9.1: New(%d, %d) answered %v, %d", mutators, slots, r, e)
			}
		}
	}
	if took != maxMutators*maxSlots {
		t.Errorf("9.1: %d counts were taken, not %d", took, maxMutators*maxSlots)
	}
}

// Mutators and slots have each a limit of its own: one that is right of the
// one is not right of the other.
func TestNewTakesEachLimitForItself(t *testing.T) {
	fresh(t, maxMutators, maxSlots)
	for _, c := range [][2]int{{maxSlots, maxMutators}, {maxMutators + 1, 1}, {1, maxSlots + 1}, {maxMutators + 1, maxSlots}, {maxMutators, maxSlots + 1}, {0, 1}, {1, 0}, {0, maxSlots}, {maxMutators, 0}, {0, 0}, {-1, 1}, {1, -1}, {-1, -1}} {
		if r, e := roots.New(c[0], c[1]); r != nil || e != api.ErrArg {
			t.Errorf("9.1: New(%d, %d) answered %v, %d", c[0], c[1], r, e)
		}
	}
}

func TestNewHoldsNone(t *testing.T) {
	eachSize(func(mutators, slots int) {
		w := twinOf(t, mutators, slots)
		w.holds(t)
		if len(w.r.All()) != 0 || w.r.Count(none) != mutators*slots {
			t.Errorf("9.1: New(%d, %d) holds %v, of none %d", mutators, slots, w.r.All(), w.r.Count(none))
		}
	})
}

// As many slots as were asked for, and no more.
func TestNewHasItsSlots(t *testing.T) {
	eachSize(func(mutators, slots int) {
		r := fresh(t, mutators, slots)
		for m := -2; m <= maxMutators+2; m++ {
			for slot := -2; slot <= maxSlots+2; slot++ {
				there := m >= 0 && m < mutators && slot >= 0 && slot < slots
				if x, ok := r.Get(m, slot); x != none || ok != there {
					t.Errorf("9.1: of New(%d, %d), Get(%d, %d) answered %v, %v", mutators, slots, m, slot, x, ok)
				}
				if ok := r.Set(m, slot, none); ok != there {
					t.Errorf("9.1: of New(%d, %d), Set(%d, %d) answered %v", mutators, slots, m, slot, ok)
				}
			}
		}
	})
}
