package arena_test

import (
	"slices"
	"testing"

	"mooring/api"
	"mooring/arena"
)

// tells holds Blocks, Used and Room of each class against plain numbers.
func tells(t *testing.T, a *arena.Arena, blocks []int, used int, room [5]int) {
	t.Helper()
	if got := a.Blocks(); !slices.Equal(got, blocks) || a.Used() != used {
		t.Errorf("7.3: Blocks is %v, not %v; Used is %d, not %d", got, blocks, a.Used(), used)
	}
	for i, class := range classes {
		if got := a.Room(class); got != room[i] {
			t.Errorf("7.3: with %v, Room(%d) is %d, not %d", blocks, class, got, room[i])
		}
	}
}

func TestWhatIsToldBetweenEmptyAndFull(t *testing.T) {
	a := fresh(t, 48)
	tells(t, a, []int{0, 0, 0}, 0, [5]int{48, 24, 12, 6, 3})
	a.Alloc(2)
	tells(t, a, []int{2, 0, 0}, 2, [5]int{32, 23, 8, 4, 2})
	a.Alloc(7)
	tells(t, a, []int{2, 8, 0}, 10, [5]int{16, 15, 4, 3, 1})
	a.Alloc(10)
	tells(t, a, []int{2, 8, 16}, 26, [5]int{0, 7, 0, 1, 0})
	a.Alloc(8)
	tells(t, a, []int{2, 8, 16}, 34, [5]int{0, 7, 0, 0, 0})
	a.Free(16)
	tells(t, a, []int{2, 8, 16}, 26, [5]int{0, 7, 0, 1, 0})
	a.Free(32)
	tells(t, a, []int{2, 8, 0}, 10, [5]int{16, 15, 4, 3, 1})
	a.Free(0)
	tells(t, a, []int{0, 8, 0}, 8, [5]int{32, 16, 8, 5, 2})
	a.Free(24)
	tells(t, a, []int{0, 0, 0}, 0, [5]int{48, 24, 12, 6, 3})
}

func TestWhatAFullArenaTells(t *testing.T) {
	tells(t, cut(t, 1, 2, 4, 8, 16).a, []int{1, 2, 4, 8, 16}, 80, [5]int{})
	tells(t, cut(t, 16, 16).a, []int{16, 16}, 32, [5]int{})
	tells(t, cut(t, 1).a, []int{1}, 16, [5]int{})
}

// Used counts a place's cells, not the size that was asked for.
func TestUsedCountsTheCellsOfPlaces(t *testing.T) {
	for size := 1; size <= 16; size++ {
		a := fresh(t, 16)
		a.Alloc(size)
		if a.Used() != classOf(size) || a.At(0) != classOf(size) {
			t.Errorf("7.3: behind Alloc(%d), Used is %d, At(0) is %d", size, a.Used(), a.At(0))
		}
	}
}

func TestAtOfEachCell(t *testing.T) {
	a := fresh(t, 48)
	for _, size := range []int{4, 2, 4, 2, 16} {
		a.Alloc(size)
	}
	a.Free(0)
	taken := map[int]int{4: 4, 16: 2, 18: 2, 32: 16}
	for cell := -50; cell < 150; cell++ {
		if got := a.At(cell); got != taken[cell] {
			t.Errorf("7.3: At(%d) is %d, not %d", cell, got, taken[cell])
		}
	}
}

// pieces answers arenas with this and that in them, each made anew.
func pieces(t *testing.T) []*twin {
	t.Helper()
	all := []*twin{twinOf(t, 16), twinOf(t, 80), cut(t, 1, 2, 4, 8, 16), cut(t, 0, 4, 0, 4, 16, 0)}
	w := cut(t, 1, 1, 2, 4, 8, 0, 2)
	w.free(t, 3, 31, 20, 32+6, 48+4, 48+12, 64, 96+2, 96)
	all = append(all, w)
	w = cut(t, 8, 8, 0)
	w.free(t, 8, 16)
	return append(all, w)
}

// Just as many times: not once more, and not once less.
func TestRoomIsHowOftenAllocGoesWell(t *testing.T) {
	for k := range pieces(t) {
		for _, size := range sizes() {
			w := pieces(t)[k]
			room := w.a.Room(size)
			for left := room; left > 0; left-- {
				if _, e := w.a.Alloc(size); e != api.OK || w.a.Room(size) != left-1 {
					t.Fatalf("7.3: Room(%d) was %d; Alloc answered %d, Room is %d", size, room, e, w.a.Room(size))
				}
			}
			if _, e := w.a.Alloc(size); e == api.OK {
				t.Fatalf("7.3: Room(%d) was %d, and Alloc goes well once more", size, room)
			}
		}
	}
}

func TestAskingChangesNothing(t *testing.T) {
	for k, w := range pieces(t) {
		before := told(w.a)
		for _, size := range sizes() {
			w.a.Room(size)
			arena.Class(size)
		}
		for cell := -1; cell <= w.cells(); cell++ {
			w.a.At(cell)
		}
		w.a.Blocks()
		w.a.Used()
		if now := told(w.a); now != before {
			t.Errorf("7.3: asked, an arena tells %s, not %s", now, before)
		}
		w.holds(t)
		asNever(t, w, pieces(t)[k])
	}
}

// asNever takes from both twins until they are full: the one must answer as
// the other.
func asNever(t *testing.T, w, other *twin) {
	t.Helper()
	for _, size := range []int{2, 9, 1, 5, 3, 1, 2} {
		for range 3 {
			if x, y := w.alloc(t, size), other.alloc(t, size); x != y {
				t.Errorf("R4: Alloc(%d) answered %d of one, %d of the other", size, x, y)
			}
		}
	}
	w.holds(t)
}

func TestWhatIsRefusedChangesNothing(t *testing.T) {
	for k, w := range pieces(t) {
		for _, size := range sizes() {
			if w.places.room(w.count, size) == 0 {
				_, e := w.places.next(w.count, size)
				w.refused(t, size, e)
			}
		}
		for cell := range w.cells() {
			if w.places[cell] == 0 {
				w.freeNone(t, cell)
			}
		}
		w.freeNone(t, w.outside()...)
		asNever(t, w, pieces(t)[k])
	}
}

// spoil writes over all of l, its spare room too.
func spoil(l []int) {
	whole := l[:cap(l)]
	for i := range whole {
		whole[i] = 2
	}
}

func TestWhatBlocksAnswersIsItsOwners(t *testing.T) {
	for k, w := range pieces(t) {
		spoil(w.a.Blocks())
		spoil(append(w.a.Blocks(), 8))
		w.holds(t)
		first, second := w.a.Blocks(), w.a.Blocks()
		spoil(first)
		spoil(append(first, 8))
		if !slices.Equal(second, w.places.blocks(w.count)) {
			t.Errorf("R2: with another answer written over, Blocks' is %v", second)
		}
		asNever(t, w, pieces(t)[k])
	}
}

func TestWhatBlocksAnsweredStaysAsTheArenaGoesOn(t *testing.T) {
	w := twinOf(t, 32)
	none := w.a.Blocks()
	w.alloc(t, 4)
	one := w.a.Blocks()
	w.alloc(t, 16)
	two := w.a.Blocks()
	w.free(t, 0, 16)
	w.alloc(t, 1)
	got := [][]int{none, one, two, w.a.Blocks()}
	for i, want := range [][]int{{0, 0}, {4, 0}, {4, 16}, {1, 0}} {
		if !slices.Equal(got[i], want) {
			t.Errorf("R2: Blocks answered %v, and this is now %v", want, got[i])
		}
	}
}
