package cycle_test

import (
	"fmt"
	"math/rand"
	"testing"

	"mooring/api"
)

// bound answers how many units 16.6 allows for so many objects.
func bound(objects int) int { return (maxDist + 3) * (objects + 1) * (objects + 3) }

// stacks are sizes of the stack: the least, the greatest, and some between.
var stacks = []int{1, 2, 5, maxGrey}

// counts how many units a cycle of these objects has behind its shaking, in
// which the mutator 0 holds some, and holds it against the bound; with more units
// a Step it has as many.
func counts(t *testing.T, name string, things []thing, held ...api.ID) {
	t.Helper()
	for _, grey := range stacks {
		c := setting{1, grey, 3, 1}.collector(t, heapOf(t, 0, things...))
		begins(t, c, 1, held...)
		freed, units := ends(t, c)
		if units > bound(len(things)) || units < 3+len(things) {
			t.Errorf("16.6: %s: with a stack of %d, %d objects have %d units, and may have %d", name, grey, len(things), units, bound(len(things)))
		}
		for _, work := range []int{2, 7, maxWork} {
			c := setting{1, grey, 3, work}.collector(t, heapOf(t, 0, things...))
			begins(t, c, 1, held...)
			again, steps := ends(t, c)
			if want := (units + work - 1) / work; steps != want || fmt.Sprint(again) != fmt.Sprint(freed) {
				t.Errorf("16.2: %s: with a stack of %d, %d units are %d Steps of %d each, not %d", name, grey, units, steps, work, want)
			}
		}
	}
}

// ins are Ins of objects by their places.
var ins = []struct {
	name string
	in   func(place, count int) int
}{
	{"held by nobody", func(int, int) int { return 0 }},
	{"the first held", func(place, _ int) int { return max(0, 1-place) }},
	{"the last held", func(place, count int) int { return max(0, place+2-count) }},
	{"all held alike", func(int, int) int { return 7 }},
	{"all as far as may be", func(int, int) int { return maxDist }},
	{"falling", func(place, _ int) int { return max(1, maxDist-place) }},
	{"rising", func(place, _ int) int { return min(maxDist, 1+place) }},
	{"falling, twice", func(place, _ int) int { return max(1, maxDist-place*2%maxDist) }},
	{"by turns", func(place, _ int) int { return place % 2 * (maxDist - place/2) }},
}

// shapes are references of objects by their places.
var shapes = []struct {
	name string
	refs func(place, count int) []api.ID
}{
	{"alone", func(int, int) []api.ID { return nil }},
	{"to itself", func(place, _ int) []api.ID { return []api.ID{own(uint64(place + 1))} }},
	{"a chain", func(place, count int) []api.ID { return []api.ID{own(uint64(place + 2))} }},
	{"a chain backwards", func(place, _ int) []api.ID {
		if place == 0 {
			return nil
		}
		return []api.ID{own(uint64(place))}
	}},
	{"a ring", func(place, count int) []api.ID { return []api.ID{own(uint64((place+1)%count + 1))} }},
	{"a ring backwards", func(place, count int) []api.ID { return []api.ID{own(uint64((place+count-1)%count + 1))} }},
	{"a ring with all that leads out", func(place, count int) []api.ID {
		return []api.ID{own(uint64((place+1)%count + 1)), far(4+place%4, uint64(place+1)), far(9, 9)}
	}},
	{"all over one", func(place, count int) []api.ID {
		l := []api.ID{own(1)}
		for k := range maxFields - 1 {
			l = append(l, own(uint64((place+k*9)%count+1)))
		}
		return l
	}},
	{"a tree", func(place, count int) []api.ID {
		return []api.ID{own(uint64(2*place + 2)), own(uint64(2*place + 3))}
	}},
}

// Heaps of no object, of one, and of chains, rings and such of as many as may
// be, held in all ways.
func TestHowManyUnits(t *testing.T) {
	for _, count := range []int{0, 1, 2, 3, 8, maxObjects} {
		for _, i := range ins {
			for _, s := range shapes {
				var things []thing
				for place := range count {
					things = append(things, thing{i.in(place, count), s.refs(place, count)})
				}
				name := s.name + ", " + i.name
				counts(t, name, things)
				counts(t, name+", and one by a mutator", things, own(uint64(count)))
			}
		}
	}
}

// What mutators hold, as much of it as there is.
func TestHowManyUnitsOfWhatIsHeld(t *testing.T) {
	var held []api.ID
	for k := range maxObjects {
		held = append(held, own(uint64(maxObjects-k)), far(5, uint64(k+1)))
	}
	for _, s := range shapes {
		var things []thing
		for place := range maxObjects {
			things = append(things, thing{maxDist, s.refs(place, maxObjects)})
		}
		counts(t, s.name, things, held...)
	}
}

// Many heaps as they come.
func TestHowManyUnitsOfManyHeaps(t *testing.T) {
	for seed := range int64(60) {
		r := rand.New(rand.NewSource(seed))
		count := r.Intn(maxObjects + 1)
		var things []thing
		for range count {
			o := thing{in: r.Intn(maxDist + 1)}
			for range r.Intn(maxFields + 1) {
				o.refs = append(o.refs, own(uint64(1+r.Intn(count))))
			}
			things = append(things, o)
		}
		counts(t, fmt.Sprint("seed ", seed), things, randomID(r, count, 0), randomID(r, count, 0))
	}
}

// Plain numbers of units, told without a bound.
func TestPlainNumbersOfUnits(t *testing.T) {
	for _, one := range []struct {
		name   string
		grey   int
		want   int
		things []thing
	}{
		{"nothing", 1, 3, nil},
		{"one that goes", 1, 3 + 3, []thing{bare()}},
		{"one that stays", 1, 3 + 4, []thing{held(1)}},
		{"one that is suspect", 1, 3 + 6, []thing{held(9)}},
		{"a ring of two that goes", 1, 3 + 6, []thing{bare(own(2)), bare(own(1))}},
		{"a ring of two that is suspect", 1, 3 + 11, []thing{held(9, own(2)), bare(own(1))}},
		{"three that find no room", 1, 3 + 19, []thing{held(1, own(2), own(3), own(4)), bare(), bare(), bare()}},
		{"three that find room", 3, 3 + 16, []thing{held(1, own(2), own(3), own(4)), bare(), bare(), bare()}},
	} {
		c := setting{1, one.grey, 3, 1}.collector(t, heapOf(t, 0, one.things...))
		begins(t, c, 1)
		if _, units := ends(t, c); units != one.want {
			t.Errorf("16.2: %s: there are %d units, not %d", one.name, units, one.want)
		}
	}
}
