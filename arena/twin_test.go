package arena_test

import (
	"fmt"
	"maps"
	"math"
	"slices"
	"testing"

	"mooring/api"
	"mooring/arena"
)

// The document's numbers a second time, so that a wrong one is met.
const (
	blockCells = 16
	maxCells   = 4096
)

var classes = []int{1, 2, 4, 8, 16}

// wrongSizes are sizes without a class.
var wrongSizes = []int{math.MinInt, math.MinInt + 1, -1 << 32, -17, -16, -2, -1, 0, 17, 18, 31, 32, 1<<8 + 1, 1<<16 + 1, 1 << 32, 1<<32 + 1, math.MaxInt - 1, math.MaxInt}

// sizes answers all sizes with a class, and wrong ones.
func sizes() []int { return slices.Concat(upTo(1, blockCells), wrongSizes) }

// classOf tells a size's class a second time, by the list of them.
func classOf(size int) int {
	if size < 1 {
		return 0
	}
	for _, c := range classes {
		if c >= size {
			return c
		}
	}
	return 0
}

// upTo answers first to last, in order.
func upTo(first, last int) []int {
	var l []int
	for x := first; x <= last; x++ {
		l = append(l, x)
	}
	return l
}

// fresh answers an arena whose blocks are free.
func fresh(t *testing.T, cells int) *arena.Arena {
	t.Helper()
	a, e := arena.New(cells)
	if a == nil || e != api.OK {
		t.Fatalf("7.1: New(%d) answered %v, %d", cells, a, e)
	}
	return a
}

// places are the places that are taken: of each first cell its class. All else
// that an arena tells follows from them.
type places map[int]int

// block answers the class of block n: that of a place that is taken in it.
func (p places) block(n int) int {
	for cell := n * blockCells; cell < (n+1)*blockCells; cell++ {
		if p[cell] != 0 {
			return p[cell]
		}
	}
	return 0
}

func (p places) blocks(count int) []int {
	var l []int
	for n := range count {
		l = append(l, p.block(n))
	}
	return l
}

func (p places) used() int {
	sum := 0
	for _, class := range p {
		sum += class
	}
	return sum
}

// next answers the cell that the next Alloc of size must tell.
func (p places) next(count, size int) (int, api.Errno) {
	class := classOf(size)
	if class == 0 {
		return 0, api.ErrArg
	}
	blocks := p.blocks(count)
	for n, c := range blocks {
		for cell := n * blockCells; c == class && cell < (n+1)*blockCells; cell += class {
			if p[cell] == 0 {
				return cell, api.OK
			}
		}
	}
	if n := slices.Index(blocks, 0); n >= 0 {
		return n * blockCells, api.OK
	}
	return 0, api.ErrOOM
}

// room counts how often next goes well on a copy.
func (p places) room(count, size int) int {
	p = maps.Clone(p)
	for times := 0; ; times++ {
		cell, e := p.next(count, size)
		if e != api.OK {
			return times
		}
		p[cell] = classOf(size)
	}
}

// firsts answers the first cells of places, rising.
func (p places) firsts() []int { return slices.Sorted(maps.Keys(p)) }

// twin is an arena, and beside it the same as it should be.
type twin struct {
	a      *arena.Arena
	count  int // of its blocks
	places places
}

// twinOf answers a twin of an arena whose blocks are free.
func twinOf(t *testing.T, cells int) *twin {
	t.Helper()
	return &twin{a: fresh(t, cells), count: cells / blockCells, places: places{}}
}

// cut answers a twin whose blocks have these classes and are full; 0: free.
func cut(t *testing.T, blocks ...int) *twin {
	t.Helper()
	w := twinOf(t, len(blocks)*blockCells)
	var gone []int
	for _, c := range blocks {
		class := max(c, 1)
		for range blockCells / class {
			cell := w.alloc(t, class)
			if c == 0 {
				gone = append(gone, cell)
			}
		}
	}
	w.free(t, gone...)
	w.holds(t)
	return w
}

func (w *twin) cells() int { return w.count * blockCells }

// alloc takes a place, and holds the answer against what is asked.
func (w *twin) alloc(t *testing.T, size int) int {
	t.Helper()
	want, wantE := w.places.next(w.count, size)
	cell, e := w.a.Alloc(size)
	if cell != want || e != wantE {
		t.Fatalf("7.2: with %v, Alloc(%d) answered %d, %d, not %d, %d", w.places, size, cell, e, want, wantE)
	}
	if e == api.OK {
		w.places[cell] = classOf(size)
	}
	return cell
}

// allocs takes places, of which the cells must be as in want, or below 0 as
// the error.
func (w *twin) allocs(t *testing.T, size int, want ...int) {
	t.Helper()
	for _, wanted := range want {
		if wanted < 0 {
			w.refused(t, size, api.Errno(-wanted))
			continue
		}
		if cell := w.alloc(t, size); cell != wanted {
			t.Fatalf("7.2: Alloc(%d) answered %d, not %d", size, cell, wanted)
		}
		w.holds(t)
	}
}

// refused is an Alloc that must answer an error, and change nothing.
func (w *twin) refused(t *testing.T, size int, want api.Errno) {
	t.Helper()
	if cell, e := w.a.Alloc(size); cell != 0 || e != want {
		t.Fatalf("7.2: with %v, Alloc(%d) answered %d, %d, not 0, %d", w.places, size, cell, e, want)
	}
	w.holds(t)
}

// free frees places that are taken.
func (w *twin) free(t *testing.T, cells ...int) {
	t.Helper()
	for _, cell := range cells {
		if w.places[cell] == 0 {
			t.Fatalf("the test itself: with %v, no place begins at %d", w.places, cell)
		}
		if e := w.a.Free(cell); e != api.OK {
			t.Fatalf("7.2: with %v, Free(%d) answered %d", w.places, cell, e)
		}
		delete(w.places, cell)
	}
}

// freeNone is a Free that must answer ErrNone, and change nothing.
func (w *twin) freeNone(t *testing.T, cells ...int) {
	t.Helper()
	for _, cell := range cells {
		if e := w.a.Free(cell); e != api.ErrNone {
			t.Fatalf("7.2: with %v, Free(%d) answered %d", w.places, cell, e)
		}
		w.holds(t)
	}
}

// outside answers cells that are none.
func (w *twin) outside() []int {
	n := w.cells()
	return []int{math.MinInt, math.MinInt + 1, -n - 1, -n, -blockCells, -8, -1, n, n + 1, n + 8, n + blockCells, 2 * n, maxCells, maxCells + blockCells, 1 << 32, 1<<32 + blockCells, math.MaxInt - 15, math.MaxInt}
}

// holds holds all that the arena tells against what is asked.
func (w *twin) holds(t *testing.T) {
	t.Helper()
	if blocks, want := w.a.Blocks(), w.places.blocks(w.count); !slices.Equal(blocks, want) {
		t.Fatalf("7.3: with %v, Blocks is %v, not %v", w.places, blocks, want)
	}
	if used := w.a.Used(); used != w.places.used() {
		t.Fatalf("7.3: with %v, Used is %d, not %d", w.places, used, w.places.used())
	}
	for cell := range w.cells() {
		w.at(t, cell)
	}
	for _, cell := range w.outside() {
		if cell < 0 || cell >= w.cells() {
			w.at(t, cell)
		}
	}
	w.rooms(t)
}

func (w *twin) at(t *testing.T, cell int) {
	t.Helper()
	if class := w.a.At(cell); class != w.places[cell] {
		t.Fatalf("7.3: with %v, At(%d) is %d, not %d", w.places, cell, class, w.places[cell])
	}
}

// rooms holds Room of each size against what is asked.
func (w *twin) rooms(t *testing.T) {
	t.Helper()
	want := map[int]int{0: 0}
	for _, class := range classes {
		want[class] = w.places.room(w.count, class)
	}
	for _, size := range sizes() {
		if room := w.a.Room(size); room != want[classOf(size)] {
			t.Fatalf("7.3: with %v, Room(%d) is %d, not %d", w.places, size, room, want[classOf(size)])
		}
	}
}

// apart: by what the arena itself tells, do all places lie within it, and no
// two of them share a cell?
func apart(t *testing.T, a *arena.Arena) {
	t.Helper()
	last := len(a.Blocks()) * blockCells
	end, sum := 0, 0
	for cell := range last {
		class := a.At(cell)
		if class == 0 {
			continue
		}
		if cell < end || cell+class > last {
			t.Fatalf("7.4: the place of %d cells at %d shares one, or lies outside: %s", class, cell, told(a))
		}
		end = cell + class
		sum += class
	}
	if sum != a.Used() {
		t.Fatalf("7.3: places of %d cells are taken, Used is %d", sum, a.Used())
	}
}

// told answers all that an arena tells, as a text.
func told(a *arena.Arena) string {
	blocks := a.Blocks()
	var at, room []int
	for cell := -1; cell <= len(blocks)*blockCells; cell++ {
		at = append(at, a.At(cell))
	}
	for size := -1; size <= blockCells+1; size++ {
		room = append(room, a.Room(size))
	}
	return fmt.Sprint(blocks, a.Used(), at, room)
}
