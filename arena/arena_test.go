package arena_test

import (
	"math"
	"slices"
	"testing"

	"mooring/api"
	"mooring/arena"
)

func TestTheChaptersExamples(t *testing.T) {
	if a, e := arena.New(15); a != nil || e != api.ErrArg {
		t.Errorf("7.1: New(15) answered %v, %d", a, e)
	}
	if arena.Class(3) != 4 || arena.Class(17) != 0 {
		t.Errorf("7.1: Class(3) is %d, Class(17) is %d", arena.Class(3), arena.Class(17))
	}
	a := fresh(t, 32)
	steps := []struct {
		size, cell int
		e          api.Errno
	}{{3, 0, api.OK}, {4, 4, api.OK}, {9, 16, api.OK}, {1, 0, api.ErrOOM}}
	for _, s := range steps {
		if cell, e := a.Alloc(s.size); cell != s.cell || e != s.e {
			t.Errorf("7.2: Alloc(%d) answered %d, %d", s.size, cell, e)
		}
	}
	if a.Room(2) != 0 || a.Room(4) != 2 {
		t.Errorf("7.3: Room(2) is %d, Room(4) is %d", a.Room(2), a.Room(4))
	}
	if !slices.Equal(a.Blocks(), []int{4, 16}) || a.Used() != 24 {
		t.Errorf("7.3: Blocks is %v, Used is %d", a.Blocks(), a.Used())
	}
	if e := a.Free(4); e != api.OK {
		t.Errorf("7.2: Free(4) answered %d", e)
	}
	if e := a.Free(5); e != api.ErrNone {
		t.Errorf("7.2: Free(5) answered %d", e)
	}
}

// The errors are numbers that the chapter names.
func TestTheNumbersOfErrors(t *testing.T) {
	if api.ErrArg != 1 || api.ErrOOM != 2 || api.ErrNone != 9 {
		t.Errorf("7: the errors are %d, %d, %d", api.ErrArg, api.ErrOOM, api.ErrNone)
	}
}

func TestNewOfEveryCount(t *testing.T) {
	for cells := -2 * maxCells; cells <= 3*maxCells; cells++ {
		if cells >= 16 && cells <= maxCells && cells%16 == 0 {
			a := fresh(t, cells)
			if blocks := a.Blocks(); !slices.Equal(blocks, make([]int, cells/16)) || a.Used() != 0 {
				t.Errorf("7.1: of New(%d), Blocks is %v, Used is %d", cells, blocks, a.Used())
			}
			continue
		}
		if a, e := arena.New(cells); a != nil || e != api.ErrArg {
			t.Errorf("7.1: New(%d) answered %v, %d", cells, a, e)
		}
	}
}

func TestNewAtTheEdges(t *testing.T) {
	wrong := []int{0, 15, 17, 31, 33, maxCells - 1, maxCells + 1, maxCells + 16, 1 << 16, 1 << 32, 1<<32 + 16, 1<<32 + maxCells, math.MinInt, math.MinInt + 16, math.MaxInt - 15, math.MaxInt}
	for _, cells := range wrong {
		if a, e := arena.New(cells); a != nil || e != api.ErrArg {
			t.Errorf("7.1: New(%d) answered %v, %d", cells, a, e)
		}
	}
	for _, cells := range []int{16, 32, maxCells - 16, maxCells} {
		twinOf(t, cells).holds(t)
	}
}

func TestClassOfEverySize(t *testing.T) {
	of := []int{0, 1, 2, 4, 4, 8, 8, 8, 8, 16, 16, 16, 16, 16, 16, 16, 16}
	for size, want := range of {
		if c := arena.Class(size); c != want {
			t.Errorf("7.1: Class(%d) is %d, not %d", size, c, want)
		}
	}
	for i := 1; i < 5000; i++ {
		if arena.Class(-i) != 0 || arena.Class(16+i) != 0 {
			t.Errorf("7.1: Class(%d) is %d, Class(%d) is %d", -i, arena.Class(-i), 16+i, arena.Class(16+i))
		}
	}
	for _, size := range wrongSizes {
		if c := arena.Class(size); c != 0 {
			t.Errorf("7.1: Class(%d) is %d", size, c)
		}
	}
}

// A class is least: none that is smaller would do.
func TestClassIsTheLeastThatWillDo(t *testing.T) {
	for size := 1; size <= 16; size++ {
		c := arena.Class(size)
		if c < size || !slices.Contains(classes, c) {
			t.Errorf("7.1: Class(%d) is %d", size, c)
		}
		for _, less := range classes {
			if less >= size && less < c {
				t.Errorf("7.1: Class(%d) is %d, and %d would do", size, c, less)
			}
		}
	}
}
