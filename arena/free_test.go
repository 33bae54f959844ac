package arena_test

import (
	"math"
	"slices"
	"testing"

	"mooring/api"
)

func TestFreeOfEachCell(t *testing.T) {
	for _, blocks := range [][]int{{1}, {2}, {4}, {8}, {16}, {0}, {0, 4, 0}, {1, 2, 4, 8, 16}} {
		for cell := range 16 * len(blocks) {
			w := cut(t, blocks...)
			if w.places[cell] == 0 {
				w.freeNone(t, cell)
				continue
			}
			w.free(t, cell)
			w.holds(t)
			w.freeNone(t, cell)
		}
	}
}

func TestFreeOfACellThatIsNotTheFirstOfItsPlace(t *testing.T) {
	w := cut(t, 16, 8, 4, 2)
	for first, class := range w.places {
		for cell := first + 1; cell < first+class; cell++ {
			w.freeNone(t, cell)
		}
	}
	w = twinOf(t, 32)
	w.allocs(t, 3, 0)
	w.allocs(t, 16, 16)
	w.freeNone(t, 1, 2, 3, 4, 8, 12, 17, 20, 24, 28, 31)
	w.free(t, 0, 16)
	w.holds(t)
}

func TestFreeOfAPlaceThatWasNeverTaken(t *testing.T) {
	for _, class := range classes {
		w := twinOf(t, 32)
		w.freeNone(t, upTo(0, 31)...)
		w.allocs(t, class, 0)
		w.freeNone(t, upTo(1, 31)...)
	}
}

func TestFreeOfOneThatWasFreed(t *testing.T) {
	for _, class := range classes {
		w := cut(t, class, class)
		for _, cell := range []int{16, 0} {
			w.free(t, cell)
			w.freeNone(t, cell, cell)
			w.allocs(t, class, cell)
			w.free(t, cell)
			w.freeNone(t, cell)
		}
	}
}

func TestFreeOfWhatIsNoCell(t *testing.T) {
	for _, w := range []*twin{twinOf(t, 16), cut(t, 1), cut(t, 16, 16), cut(t, 1, 2, 4, 8, 16)} {
		w.freeNone(t, w.outside()...)
	}
}

func TestTheLastPlaceOfTheGreatestArena(t *testing.T) {
	for _, class := range classes {
		a := fresh(t, maxCells)
		for range maxCells / class {
			a.Alloc(class)
		}
		last := maxCells - class
		for _, cell := range []int{maxCells, maxCells + 16, math.MaxInt, -1, -16, math.MinInt} {
			if e := a.Free(cell); e != api.ErrNone || a.At(cell) != 0 || a.Used() != maxCells {
				t.Errorf("7.2: Free(%d) answered %d, Used is %d", cell, e, a.Used())
			}
		}
		if a.At(last) != class || a.Free(last) != api.OK || a.At(last) != 0 || a.Used() != last {
			t.Errorf("7.2: the last place of class %d: Used is %d", class, a.Used())
		}
		if cell, e := a.Alloc(class); cell != last || e != api.OK {
			t.Errorf("7.2: Alloc(%d) answered %d, %d, not %d", class, cell, e, last)
		}
	}
}

// As long as one place is taken the block keeps its class.
func TestABlockIsOfItsClassUntilItsLastPlaceIsFree(t *testing.T) {
	for _, class := range classes {
		for last := 0; last < 16; last += class {
			w := cut(t, class)
			for cell := 0; cell < 16; cell += class {
				if cell != last {
					w.free(t, cell)
					w.holds(t)
				}
			}
			if blocks := w.a.Blocks(); !slices.Equal(blocks, []int{class}) {
				t.Errorf("7.2: with one place of class %d taken, Blocks is %v", class, blocks)
			}
			w.free(t, last)
			w.holds(t)
			if blocks := w.a.Blocks(); !slices.Equal(blocks, []int{0}) {
				t.Errorf("7.2: with no place taken, Blocks is %v", blocks)
			}
		}
	}
}

func TestAFreeBlockBecomesOneOfAnyClass(t *testing.T) {
	for _, was := range classes {
		for _, class := range classes {
			w := cut(t, 16, was, 16)
			w.free(t, upToBy(16, 31, was)...)
			w.allocs(t, class, upToBy(16, 31, class)...)
			w.allocs(t, class, oom)
			w.free(t, upToBy(16, 31, class)...)
			w.allocs(t, was, 16)
		}
	}
}

// upToBy answers first, first + by, .. up to last.
func upToBy(first, last, by int) []int {
	var l []int
	for x := first; x <= last; x += by {
		l = append(l, x)
	}
	return l
}

// Two places freed, in either order, and had again.
func TestWhatIsFreedCanBeHadAgain(t *testing.T) {
	for _, class := range classes {
		cells := upToBy(0, 31, class)
		for _, x := range cells {
			for _, y := range cells {
				if x == y {
					continue
				}
				w := cut(t, class, class)
				w.free(t, x, y)
				w.holds(t)
				w.allocs(t, class, min(x, y), max(x, y), oom)
			}
		}
	}
}
