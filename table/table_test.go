package table_test

import (
	"math"
	"slices"
	"testing"

	"mooring/api"
	"mooring/table"
)

func TestExamples(t *testing.T) {
	x := fresh[uint64, string](t, 2)
	puts := []bool{x.Put(5, "a"), x.Put(3, "b"), x.Put(9, "c"), x.Put(5, "d")}
	if !slices.Equal(puts, []bool{true, true, false, true}) {
		t.Errorf("6.1: the Puts answered %v", puts)
	}
	if keys := x.Keys(); !slices.Equal(keys, []uint64{3, 5}) {
		t.Errorf("6.1: Keys is %v", keys)
	}
	steps := []struct {
		name string
		call func(uint64) (uint64, bool)
		k, n uint64
		ok   bool
	}{
		{"Next", x.Next, 3, 5, true},
		{"Next", x.Next, 5, 0, false},
		{"After", x.After, 5, 3, true},
		{"Next", x.Next, 4, 5, true},
	}
	for _, s := range steps {
		if n, ok := s.call(s.k); n != s.n || ok != s.ok {
			t.Errorf("6.2: %s(%d) answered %d, %v", s.name, s.k, n, ok)
		}
	}
	for k, want := range map[uint64]string{3: "b", 5: "d"} {
		if v, ok := x.Get(k); v != want || !ok {
			t.Errorf("6.1: Get(%d) answered %q, %v", k, v, ok)
		}
	}
	if v, ok := x.Get(9); v != "" || ok {
		t.Errorf("6.1: Get of what was refused answered %q, %v", v, ok)
	}
}

func TestNewTakesOneTo4096(t *testing.T) {
	for most := 1; most <= mostOfAll; most++ {
		twinOf[int, string](t, most).holds(t, 0, -1, 1)
	}
}

func TestNewRefuses(t *testing.T) {
	wrong := []int{0, -1, -2, -mostOfAll, mostOfAll + 1, mostOfAll + 2, 2 * mostOfAll, 1 << 16, 1 << 32, 1<<32 + 1, math.MinInt, math.MinInt + 1, math.MaxInt - 1, math.MaxInt}
	for _, most := range wrong {
		if x, e := table.New[uint64, string](most); x != nil || e != api.ErrArg {
			t.Errorf("6.1: New[uint64, string](%d) answered %v, %d", most, x, e)
		}
		if x, e := table.New[string, []int](most); x != nil || e != api.ErrArg {
			t.Errorf("6.1: New[string, []int](%d) answered %v, %d", most, x, e)
		}
	}
}

func TestEveryTableFillsAndEmpties(t *testing.T) {
	for most := 1; most <= 40; most++ {
		w := twinOf[int, int](t, most)
		for k := 1; k <= most; k++ {
			w.put(t, k, -k, true)
			w.holds(t, 0, most+1)
		}
		w.put(t, most+1, 7, false)
		w.holds(t, 0, most+1)
		for k := 1; k <= most; k++ {
			w.drop(t, k, true)
			w.holds(t, 0, k)
		}
		w.drop(t, 1, false)
		w.holds(t, 0, 1)
	}
}

func TestTheGreatestTables(t *testing.T) {
	for _, most := range []int{mostOfAll - 1, mostOfAll} {
		x := fresh[int, int](t, most)
		for i := range most {
			if k := i * prime % most; !x.Put(k, -k) || x.Len() != i+1 {
				t.Fatalf("6.1: Put(%d) into %d of %d: Len is %d", k, i, most, x.Len())
			}
		}
		if x.Put(most, 1) || x.Put(-1, 1) || !x.Put(most-1, 1-most) || x.Len() != most {
			t.Fatalf("6.1: at the limit, Len is %d", x.Len())
		}
		if !slices.Equal(x.Keys(), upTo(0, most-1)) {
			t.Fatalf("6.1: of %d, Keys is %v", most, x.Keys())
		}
		for k := range most {
			if v, ok := x.Get(k); v != -k || !ok {
				t.Fatalf("6.1: Get(%d) answered %d, %v", k, v, ok)
			}
		}
		for i := range most {
			if k := i * prime % most; !x.Drop(k) || x.Drop(k) || x.Len() != most-1-i {
				t.Fatalf("6.1: Drop(%d): Len is %d", k, x.Len())
			}
		}
	}
}

func TestPutIntoAnEmptyTable(t *testing.T) {
	for _, most := range []int{1, 2, mostOfAll} {
		w := twinOf[int, string](t, most)
		w.put(t, 5, "a", true)
		w.holds(t, 4, 6)
		w.put(t, 5, "b", true)
		w.holds(t, 4, 6)
	}
}

// Once of a key that is there, once of a new one: at the front, between, at the end.
func TestPutIntoTheLastPlace(t *testing.T) {
	for _, k := range []int{5, 15, 25, 35} {
		for _, there := range []int{10, 20, 30} {
			w := loaded(t, 4, 20, 10, 30)
			w.put(t, there, 99, true)
			w.holds(t, k)
			w.put(t, k, 77, true)
			w.holds(t, 0, 40)
			w.put(t, 40, 1, false)
			w.put(t, 0, 1, false)
			w.put(t, k, 78, true)
			w.put(t, there, 79, true)
			w.holds(t, 0, 40)
		}
	}
}

func TestPutThatIsRefusedChangesNothing(t *testing.T) {
	for most := 1; most <= 5; most++ {
		w := twinOf[int, int](t, most)
		for k := 1; k <= most; k++ {
			w.put(t, 10*k, k, true)
		}
		for k := 5; k <= 10*most+5; k += 10 {
			for range 3 {
				w.put(t, k, 99, false)
				w.holds(t, k)
			}
		}
		for k := 1; k <= most; k++ {
			w.put(t, 10*k, -k, true)
			w.holds(t, 5)
		}
	}
}

func TestPutOfAKeyThatIsThereTakesNoRoom(t *testing.T) {
	w := loaded(t, 3, 1, 2)
	for v := range 20 {
		w.put(t, 1+v%2, 100+v, true)
		w.holds(t, 0, 3)
	}
	w.put(t, 3, 7, true)
	w.put(t, 4, 8, false)
	w.holds(t, 0, 4)
}

func TestGet(t *testing.T) {
	w := twinOf[int, string](t, 4)
	w.get(t, 1)
	w.put(t, 1, "a", true)
	w.put(t, 3, "c", true)
	if v, ok := w.x.Get(3); v != "c" || !ok {
		t.Errorf("6.1: Get of a key that is there answered %q, %v", v, ok)
	}
	for _, k := range []int{0, 2, 4, math.MinInt, math.MaxInt} {
		if v, ok := w.x.Get(k); v != "" || ok {
			t.Errorf("6.1: Get(%d), which was never there, answered %q, %v", k, v, ok)
		}
	}
	w.drop(t, 3, true)
	if v, ok := w.x.Get(3); v != "" || ok {
		t.Errorf("6.1: Get of a key that was dropped answered %q, %v", v, ok)
	}
	w.put(t, 3, "d", true)
	if v, ok := w.x.Get(3); v != "d" || !ok {
		t.Errorf("6.1: Get of a key that was dropped and put again answered %q, %v", v, ok)
	}
	w.holds(t, 0, 2, 4)
}

func TestDrop(t *testing.T) {
	w := twinOf[int, string](t, 4)
	w.drop(t, 0, false)
	w.put(t, 1, "a", true)
	w.put(t, 3, "c", true)
	for _, k := range []int{0, 2, 4, math.MinInt, math.MaxInt} {
		w.drop(t, k, false)
		w.holds(t, k)
	}
	w.drop(t, 1, true)
	w.holds(t, 1)
	for range 3 {
		w.drop(t, 1, false)
		w.holds(t, 1)
	}
	w.put(t, 1, "b", true)
	w.drop(t, 1, true)
	w.drop(t, 3, true)
	w.drop(t, 3, false)
	w.holds(t, 1, 3)
}

func TestDropOfNoneMakesNoRoom(t *testing.T) {
	w := loaded(t, 3, 1, 3, 5)
	for _, k := range []int{0, 2, 4, 6} {
		w.drop(t, k, false)
		w.put(t, k, 9, false)
		w.holds(t, k)
	}
}

func TestWhatWasDroppedMakesRoom(t *testing.T) {
	for most := 1; most <= 6; most++ {
		for gone := range most {
			for _, k := range []int{-1, 10*gone + 5, 10 * most} {
				w := twinOf[int, int](t, most)
				for i := range most {
					w.put(t, 10*i, i, true)
				}
				w.put(t, k, 99, false)
				w.drop(t, 10*gone, true)
				w.put(t, k, 99, true)
				w.holds(t, 10*gone)
				w.put(t, 10*gone, 98, false)
				w.holds(t, 10*gone)
			}
		}
	}
}

func TestAZeroThatWasPutIsNotNone(t *testing.T) {
	w := twinOf[int, int](t, 2)
	w.put(t, 0, 0, true)
	if v, ok := w.x.Get(0); v != 0 || !ok {
		t.Errorf("6.1: Get(0) answered %d, %v", v, ok)
	}
	if k, ok := w.x.First(); k != 0 || !ok {
		t.Errorf("6.2: First answered %d, %v", k, ok)
	}
	if k, ok := w.x.Next(-1); k != 0 || !ok {
		t.Errorf("6.2: Next(-1) answered %d, %v", k, ok)
	}
	if k, ok := w.x.Next(0); k != 0 || ok {
		t.Errorf("6.2: Next(0) answered %d, %v", k, ok)
	}
	if k, ok := w.x.After(0); k != 0 || !ok {
		t.Errorf("6.2: After(0) answered %d, %v", k, ok)
	}
	w.drop(t, 0, true)
	w.holds(t, 0)
}
