package arena_test

import (
	"testing"

	"mooring/api"
)

const (
	oom = -int(api.ErrOOM)
	arg = -int(api.ErrArg)
)

func TestAllocOfASizeWithoutAClass(t *testing.T) {
	for _, w := range []*twin{twinOf(t, 16), twinOf(t, 48), cut(t, 4, 0, 1), cut(t, 16), cut(t, 1, 2, 4, 8, 16)} {
		for _, size := range wrongSizes {
			w.allocs(t, size, arg, arg)
		}
	}
}

func TestAllocIntoAnEmptyArena(t *testing.T) {
	for _, cells := range []int{16, 32, 64} {
		for size := 1; size <= 16; size++ {
			w := twinOf(t, cells)
			for cell := 0; cell < cells; cell += classOf(size) {
				w.allocs(t, size, cell)
			}
			w.allocs(t, size, oom, oom)
		}
	}
}

// Wherever the one place is, no block is free.
func TestAllocIntoTheOnePlaceThatIsLeft(t *testing.T) {
	for size := 1; size <= 16; size++ {
		class := classOf(size)
		for first := 0; first < 48 && class < 16; first += class {
			w := cut(t, class, class, class)
			w.free(t, first)
			for _, other := range sizes() {
				switch classOf(other) {
				case class:
				case 0:
					w.allocs(t, other, arg)
				default:
					w.allocs(t, other, oom)
				}
			}
			w.allocs(t, size, first, oom)
		}
	}
}

// Of 16 a block that has its one place left is free.
func TestAllocIntoTheOneBlockThatIsLeft(t *testing.T) {
	for size := 1; size <= 16; size++ {
		for n := range 3 {
			w := cut(t, 16, 16, 16)
			w.free(t, 16*n)
			w.allocs(t, size, 16*n)
		}
	}
}

func TestAllocWithNoPlaceOfItsClassButAFreeBlock(t *testing.T) {
	for size := 1; size <= 16; size++ {
		class := classOf(size)
		for free := range 3 {
			blocks := []int{class, class, class}
			blocks[free] = 0
			w := cut(t, blocks...)
			for cell := 16 * free; cell < 16*free+16; cell += class {
				w.allocs(t, size, cell)
			}
			w.allocs(t, size, oom)
		}
	}
}

// A block of another class that has room is none for it.
func TestAllocTakesNoPlaceOfAnotherClass(t *testing.T) {
	for size := 1; size <= 16; size++ {
		for _, class := range classes[:4] {
			if class == classOf(size) {
				continue
			}
			w := twinOf(t, 16)
			w.allocs(t, class, 0)
			w.allocs(t, size, oom)
			w.allocs(t, class, class)
			w = twinOf(t, 32)
			w.allocs(t, class, 0)
			w.allocs(t, size, 16)
		}
	}
}

func TestAllocIntoAFullArena(t *testing.T) {
	full := []*twin{cut(t, 1), cut(t, 16), cut(t, 8, 8), cut(t, 1, 2, 4, 8, 16), cut(t, 16, 16, 4)}
	for _, w := range full {
		for size := 1; size <= 16; size++ {
			w.allocs(t, size, oom, oom)
		}
		for _, size := range wrongSizes {
			w.allocs(t, size, arg)
		}
	}
}

func TestTheGreatestArenaFills(t *testing.T) {
	for _, class := range classes {
		a := fresh(t, maxCells)
		for cell := 0; cell < maxCells; cell += class {
			if got, e := a.Alloc(class); got != cell || e != api.OK {
				t.Fatalf("7.2: Alloc(%d) answered %d, %d, not %d", class, got, e, cell)
			}
			if a.Used() != cell+class || a.Room(class) != (maxCells-cell)/class-1 {
				t.Fatalf("7.3: of %d cells, Used is %d, Room is %d", maxCells, a.Used(), a.Room(class))
			}
		}
		for size := 1; size <= 16; size++ {
			if cell, e := a.Alloc(size); cell != 0 || e != api.ErrOOM {
				t.Fatalf("7.2: Alloc(%d) into a full arena answered %d, %d", size, cell, e)
			}
		}
		apart(t, a)
	}
}

// Places are freed in many orders, of no block all of them; they are had again
// from the first on.
func TestAllocTellsTheFirstFreePlace(t *testing.T) {
	for _, class := range classes[:4] {
		for _, gone := range [][]int{{0, 1}, {1, 0}, {17, 3, 1}, {3, 17, 33, 1}, {32, 16, 0}, {46, 44, 41, 26, 10, 9}} {
			w := cut(t, class, class, class)
			freed := map[int]bool{}
			for _, cell := range gone {
				first := cell / class * class
				if !freed[first] {
					w.free(t, first)
					freed[first] = true
				}
			}
			for cell := range 48 {
				if freed[cell] {
					w.allocs(t, class, cell)
				}
			}
			w.allocs(t, class, oom)
		}
	}
}

func TestAllocWhereBlocksOfOtherClassesLieBetween(t *testing.T) {
	w := cut(t, 8, 2, 16, 2, 4, 1, 2)
	w.free(t, 16*6+4, 16*3+10, 16*1+14, 16*3+2, 16*4+4, 16*0+8)
	w.allocs(t, 2, 16*1+14, 16*3+2, 16*3+10, 16*6+4, oom)
	w.allocs(t, 5, 8, oom)
	w.allocs(t, 3, 16*4+4, oom)
	w.allocs(t, 1, oom)
	w.allocs(t, 16, oom)
}

// A block of the class that lies behind a free one goes ahead of it.
func TestAFreeBlockComesBehindThoseOfTheClass(t *testing.T) {
	for _, class := range classes[:4] {
		w := cut(t, 0, class, 0, class)
		w.free(t, 48, 16+class)
		w.allocs(t, class, 16+class, 48, 0)
		for cell := class; cell < 16; cell += class {
			w.allocs(t, class, cell)
		}
		w.allocs(t, class, 32)
	}
}

func TestTheFirstFreeBlockIsTaken(t *testing.T) {
	for size := 1; size <= 16; size++ {
		w := cut(t, 16, 0, 16, 0, 0)
		class := classOf(size)
		for _, n := range []int{1, 3, 4} {
			for cell := 16 * n; cell < 16*n+16; cell += class {
				w.allocs(t, size, cell)
			}
		}
		w.allocs(t, size, oom)
	}
}

// Of one class all sizes are the same.
func TestSizesOfOneClassShareABlock(t *testing.T) {
	w := twinOf(t, 64)
	w.allocs(t, 5, 0)
	w.allocs(t, 8, 8)
	w.allocs(t, 6, 16)
	w.allocs(t, 7, 24)
	w.allocs(t, 3, 32)
	w.allocs(t, 4, 36)
	w.allocs(t, 16, 48)
	w.allocs(t, 9, oom)
	w.allocs(t, 8, oom)
	w.allocs(t, 3, 40, 44, oom)
}
