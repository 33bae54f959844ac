package arena_test

import (
	"fmt"
	"maps"
	"math/rand"
	"slices"
	"testing"

	"mooring/api"
	"mooring/arena"
)

// step is an Alloc of size, or, where size is 0, a Free of cell.
type step struct{ size, cell int }

// do does a step that goes well.
func (w *twin) do(t *testing.T, s step) {
	t.Helper()
	if s.size == 0 {
		w.free(t, s.cell)
		return
	}
	w.alloc(t, s.size)
}

// replay answers a twin of an empty arena behind all of steps.
func replay(t *testing.T, cells int, steps []step) *twin {
	t.Helper()
	w := twinOf(t, cells)
	for _, s := range steps {
		w.do(t, s)
	}
	return w
}

// Every arena that can be of three blocks and the classes 4, 8 and 16: each is
// reached, told, and each step from it is done.
func TestEveryArenaOfThreeBlocks(t *testing.T) {
	const cells = 48
	met := map[string]bool{fmt.Sprint(places{}): true}
	for open := [][]step{nil}; len(open) > 0; open = open[1:] {
		steps := open[0]
		w := replay(t, cells, steps)
		w.holds(t)
		apart(t, w.a)
		w.freeNone(t, -1, cells)
		var next []step
		for _, size := range []int{4, 8, 16} {
			if _, e := w.places.next(w.count, size); e == api.OK {
				next = append(next, step{size: size})
			} else {
				w.refused(t, size, e)
			}
		}
		for _, cell := range w.places.firsts() {
			next = append(next, step{cell: cell})
		}
		for _, s := range next {
			longer := append(slices.Clone(steps), s)
			key := fmt.Sprint(replay(t, cells, longer).places)
			if !met[key] {
				met[key] = true
				open = append(open, longer)
			}
		}
	}
	// A block is free, of class 4 with some of 4 places taken, of 8 with some
	// of 2, or of 16.
	if want := 20 * 20 * 20; len(met) != want {
		t.Errorf("7.2: %d arenas were met, not %d", len(met), want)
	}
}

// play does steps as r picks them; it leans to Allocs and to Frees by turns, so
// that the arena is often full and often empty.
func (w *twin) play(t *testing.T, r *rand.Rand, steps int) {
	t.Helper()
	for n := range steps {
		lean := 3 + 4*(n/60%2)
		firsts := w.places.firsts()
		switch {
		case r.Intn(10) >= lean:
			w.alloc(t, 1+r.Intn(16)>>r.Intn(5))
		case len(firsts) > 0 && r.Intn(8) > 0:
			w.free(t, firsts[r.Intn(len(firsts))])
		default:
			w.tryFree(t, r.Intn(w.cells()+40)-20)
		}
		w.holds(t)
		apart(t, w.a)
	}
}

// tryFree frees any cell.
func (w *twin) tryFree(t *testing.T, cell int) {
	t.Helper()
	if w.places[cell] == 0 {
		w.freeNone(t, cell)
		return
	}
	w.free(t, cell)
}

func TestPlayedByManySeeds(t *testing.T) {
	for seed := range int64(40) {
		r := rand.New(rand.NewSource(seed))
		w := twinOf(t, 16*(1+int(seed)%7))
		w.play(t, r, 300)
		w.emptied(t, r)
	}
}

// emptied frees all that is taken, in an order that r picks: then the arena is
// as it was at first.
func (w *twin) emptied(t *testing.T, r *rand.Rand) {
	t.Helper()
	firsts := w.places.firsts()
	r.Shuffle(len(firsts), func(i, j int) { firsts[i], firsts[j] = firsts[j], firsts[i] })
	for _, cell := range firsts {
		w.free(t, cell)
		w.holds(t)
	}
	asAtFirst(t, w)
}

// asAtFirst: does an arena that was emptied tell, and go on, as a new one?
func asAtFirst(t *testing.T, w *twin) {
	t.Helper()
	n := twinOf(t, w.cells())
	if now, first := told(w.a), told(n.a); now != first {
		t.Fatalf("7.4: with all freed, an arena tells %s, not %s", now, first)
	}
	asNever(t, w, n)
}

// orders answers all orders of l.
func orders(l []int) [][]int {
	if len(l) == 0 {
		return [][]int{nil}
	}
	var all [][]int
	for i := range l {
		for _, o := range orders(slices.Concat(l[:i], l[i+1:])) {
			all = append(all, append([]int{l[i]}, o...))
		}
	}
	return all
}

func TestAllFreedInEveryOrder(t *testing.T) {
	takes := []int{3, 8, 4, 16, 5, 2}
	for _, order := range orders([]int{0, 16, 4, 32, 24, 48}) {
		w := twinOf(t, 64)
		for _, size := range takes {
			w.alloc(t, size)
		}
		w.free(t, order...)
		asAtFirst(t, w)
	}
}

func TestAllTakenInEveryOrder(t *testing.T) {
	for _, order := range orders([]int{1, 2, 4, 8, 16, 3}) {
		w := twinOf(t, 80)
		for _, size := range order {
			w.alloc(t, size)
		}
		w.holds(t)
		apart(t, w.a)
		w.free(t, w.places.firsts()...)
		asAtFirst(t, w)
	}
}

// The arena itself tells which cells are shared: each place has a mark of its
// own, written into all of its cells.
func TestNoTwoPlacesShareACell(t *testing.T) {
	for seed := range int64(20) {
		r := rand.New(rand.NewSource(seed))
		a := fresh(t, 256)
		marks, held := make([]int, 256), map[int]int{}
		for n := 1; n <= 1500; n++ {
			if r.Intn(5) < 2 {
				give(t, a, marks, held, r)
				continue
			}
			size := 1 + r.Intn(16)>>r.Intn(5)
			if cell, e := a.Alloc(size); e == api.OK {
				held[cell] = n
				write(t, marks[cell:cell+arena.Class(size)], 0, n)
			}
		}
	}
}

// give frees one of held that r picks.
func give(t *testing.T, a *arena.Arena, marks []int, held map[int]int, r *rand.Rand) {
	t.Helper()
	if len(held) == 0 {
		return
	}
	firsts := slices.Sorted(maps.Keys(held))
	cell := firsts[r.Intn(len(firsts))]
	write(t, marks[cell:cell+a.At(cell)], held[cell], 0)
	delete(held, cell)
	if e := a.Free(cell); e != api.OK {
		t.Fatalf("7.2: Free(%d) answered %d", cell, e)
	}
}

// write writes mark into cells that must all hold was.
func write(t *testing.T, cells []int, was, mark int) {
	t.Helper()
	for i := range cells {
		if cells[i] != was {
			t.Fatalf("7.4: a cell of the place %d is the place %d's too", mark, cells[i])
		}
		cells[i] = mark
	}
}

func TestArenasKnowNothingOfOneAnother(t *testing.T) {
	a, b := twinOf(t, 32), twinOf(t, 48)
	both := func() {
		t.Helper()
		a.holds(t)
		b.holds(t)
	}
	a.allocs(t, 3, 0)
	both()
	b.freeNone(t, 0)
	b.allocs(t, 16, 0, 16)
	a.allocs(t, 4, 4)
	both()
	a.freeNone(t, 16)
	b.allocs(t, 1, 32)
	b.allocs(t, 2, oom)
	a.allocs(t, 2, 16)
	both()
	spoil(a.a.Blocks())
	both()
	a.free(t, 0, 16)
	both()
	b.free(t, 0, 32)
	both()
	if _, e := arena.New(8); e != api.ErrArg {
		t.Errorf("7.1: New(8) answered %d", e)
	}
	fresh(t, 32).Alloc(1)
	both()
}

func TestManyArenasSideBySide(t *testing.T) {
	r := rand.New(rand.NewSource(7))
	var all []*twin
	for n := 1; n <= 6; n++ {
		all = append(all, twinOf(t, 16*n))
	}
	for range 60 {
		all[r.Intn(len(all))].play(t, r, 5)
		for _, w := range all {
			w.holds(t)
		}
	}
}

func TestTheSameAgain(t *testing.T) {
	run := func() []string {
		r := rand.New(rand.NewSource(5))
		w := twinOf(t, 64)
		var l []string
		for range 30 {
			w.play(t, r, 20)
			l = append(l, told(w.a))
		}
		return l
	}
	if first, second := run(), run(); len(first) == 0 || !slices.Equal(first, second) {
		t.Errorf("R4: told the same, an arena tells %v, then %v", first, second)
	}
}
