package table_test

import (
	"cmp"
	"math"
	"slices"
	"testing"

	"mooring/api"
	"mooring/table"
)

// goesThrough puts all of keys into a table that they fill, in that order, one
// too many, and drops them, the first first; values are picked by place.
func goesThrough[K cmp.Ordered, V comparable](t *testing.T, values []V, keys ...K) {
	t.Helper()
	most := len(keys) - 1
	w := twinOf[K, V](t, most)
	value := func(i int) V { return values[i%len(values)] }
	for turn := range 3 {
		for i, k := range keys[:most] {
			w.put(t, k, value(turn+i), true)
			w.holds(t, keys...)
		}
		w.put(t, keys[most], value(turn), false)
		w.holds(t, keys...)
		w.put(t, keys[0], value(turn+1), true)
		w.holds(t, keys...)
		for _, k := range keys {
			rounds(t, w, k)
		}
		for i, k := range keys {
			w.drop(t, k, i < most)
			w.holds(t, keys...)
		}
	}
}

// pair is a struct with an array in it.
type pair struct {
	Name string
	Nums [3]int
}

// goesThroughAll goes through keys with values of many kinds.
func goesThroughAll[K cmp.Ordered](t *testing.T, keys ...K) {
	t.Helper()
	n, m := 1, 1
	goesThrough(t, []int{0, -1, math.MinInt, math.MaxInt}, keys...)
	goesThrough(t, []uint64{math.MaxUint64, 0, 1}, keys...)
	goesThrough(t, []string{"a", "", "\x00\xff", "a"}, keys...)
	goesThrough(t, []bool{true, false}, keys...)
	goesThrough(t, []pair{{"a", [3]int{1, 2, 3}}, {}, {"b", [3]int{0, 0, 9}}}, keys...)
	goesThrough(t, []api.Scion{{Serial: 1, Holder: 2}, {}, {Present: true}}, keys...)
	goesThrough(t, []*int{&n, nil, &m}, keys...)
	goesThrough(t, []any{nil, 1, "a", pair{}}, keys...)
	goesThrough(t, []struct{}{{}}, keys...)
	goesThrough(t, [][2]float64{{1, 2}, {}, {math.Inf(1), -1}}, keys...)
}

// Kinds with a name of their own.
type (
	level int16
	name  string
)

func TestKeysWithASign(t *testing.T) {
	goesThroughAll(t, 0, 7, -7, math.MaxInt, math.MinInt, -1, 1)
	goesThroughAll[int64](t, math.MaxInt64, 0, math.MinInt64, math.MinInt64+1, math.MaxInt64-1)
	goesThroughAll[int32](t, -1, math.MinInt32, math.MaxInt32, 0)
	goesThroughAll[int8](t, 127, -128, 0, -1, 1)
	goesThroughAll[level](t, 3, -3, 0)
}

func TestKeysWithoutASign(t *testing.T) {
	goesThroughAll[uint64](t, math.MaxUint64, 0, 1<<63, 1<<63-1, 1)
	goesThroughAll[uint](t, 5, 3, math.MaxUint, 9, 0)
	goesThroughAll[uint32](t, 1<<31, 0, math.MaxUint32, 1)
	goesThroughAll[uint8](t, 255, 128, 127, 0)
	goesThroughAll(t, api.Key(api.ID{Node: api.MaxNodes, Serial: api.MaxSerial}), api.Key(api.ID{Node: 1, Serial: 2}), api.Key(api.ID{}), api.Key(api.ID{Node: 2, Serial: 1}))
}

func TestKeysThatAreTexts(t *testing.T) {
	goesThroughAll(t, "ab", "", "abc", "a", "b", "B", "aa")
	goesThroughAll(t, "\xff", "\x00", "", "\x00\x00", "\xff\xff", "~", "ä")
	goesThroughAll[name](t, "x", "", "xy", "w")
}

func TestKeysThatAreFloats(t *testing.T) {
	goesThroughAll(t, 0.5, math.Inf(1), -0.5, 0, math.Inf(-1), math.MaxFloat64, math.SmallestNonzeroFloat64)
	goesThroughAll[float32](t, 1.5, -2, 0, 1e30)
}

// A text that begins with another is above it, and the empty one below all.
func TestTheOrderOfTexts(t *testing.T) {
	w := loaded(t, 6, "b", "abc", "", "ab", "a", "B")
	if keys := w.x.Keys(); !slices.Equal(keys, []string{"", "B", "a", "ab", "abc", "b"}) {
		t.Errorf("6.1: Keys is %q", keys)
	}
	steps(t, w,
		step[string]{"", "B", true, "B"},
		step[string]{"a", "ab", true, "ab"},
		step[string]{"aa", "ab", true, "ab"},
		step[string]{"ab", "abc", true, "abc"},
		step[string]{"ab\x00", "abc", true, "abc"},
		step[string]{"abcd", "b", true, "b"},
		step[string]{"b", "", false, ""})
	w.drop(t, "", true)
	steps(t, w, step[string]{"", "B", true, "B"}, step[string]{"b", "", false, "B"})
}

// Two zeros of another sign are one key.
func TestBothZerosAreOneKey(t *testing.T) {
	w := twinOf[float64, string](t, 1)
	w.put(t, math.Copysign(0, -1), "a", true)
	w.put(t, 0, "b", true)
	w.holds(t, 0, math.Copysign(0, -1), 1)
	w.drop(t, math.Copysign(0, -1), true)
	w.drop(t, 0, false)
	w.holds(t, 0)
}

// Of what is no number nothing is promised, but that each call ends and none
// panics.
func TestAKeyThatIsNoNumberEnds(t *testing.T) {
	x := fresh[float64, int](t, 4)
	for i, k := range []float64{1, math.NaN(), 0, math.NaN(), math.Inf(-1), 2, math.NaN()} {
		x.Put(k, i)
		x.Get(k)
		x.First()
		x.Next(k)
		x.After(k)
		x.Keys()
	}
	for _, k := range []float64{math.NaN(), 0, 1, math.NaN(), 2, math.Inf(-1)} {
		x.Drop(k)
		x.After(k)
		x.Len()
	}
}

func TestATableOfSlices(t *testing.T) {
	x := fresh[string, []int](t, 3)
	if v, ok := x.Get(""); v != nil || ok {
		t.Errorf("6.1: Get of none answered %v, %v", v, ok)
	}
	x.Put("b", []int{1, 2})
	x.Put("", nil)
	x.Put("a", []int{})
	if x.Put("c", []int{9}) {
		t.Error("6.1: Put into a full table answered true")
	}
	x.Put("a", []int{3})
	for k, want := range map[string][]int{"b": {1, 2}, "": nil, "a": {3}} {
		if v, ok := x.Get(k); !slices.Equal(v, want) || !ok {
			t.Errorf("6.1: Get(%q) answered %v, %v, not %v", k, v, ok, want)
		}
	}
	if v, ok := x.Get("c"); v != nil || ok {
		t.Errorf("6.1: Get of what was refused answered %v, %v", v, ok)
	}
	if !x.Drop("b") || x.Drop("b") {
		t.Error("6.1: Drop of a key that is there isn't true, then false")
	}
	if v, ok := x.Get("b"); v != nil || ok {
		t.Errorf("6.1: Get of what was dropped answered %v, %v", v, ok)
	}
}

// A list that is a value is what was put, and neither it nor its spare room is
// written to, however the table goes on.
func TestSlicesInATableStayAsTheyArePut(t *testing.T) {
	x := fresh[int, []int](t, 3)
	all := upTo(1, 6)
	x.Put(2, all[0:2])
	x.Put(1, all[2:4])
	x.Put(3, all[4:5])
	x.Put(4, all[5:6])
	x.Put(2, all[1:2])
	x.Drop(1)
	spoil(x.Keys(), -1)
	for k, want := range map[int][]int{2: {2}, 3: {5}} {
		if v, ok := x.Get(k); !slices.Equal(v, want) || !ok {
			t.Errorf("6.1: Get(%d) answered %v, %v, not %v", k, v, ok, want)
		}
	}
	if !slices.Equal(all, upTo(1, 6)) {
		t.Errorf("R2: what was put, with its spare room, is now %v", all)
	}
}

func TestStructsInATableAreItsOwn(t *testing.T) {
	w := twinOf[int, pair](t, 2)
	v := pair{"a", [3]int{1, 2, 3}}
	w.put(t, 5, v, true)
	v.Name, v.Nums[0] = "b", 9
	w.holds(t)
	got, _ := w.x.Get(5)
	got.Nums[1] = 9
	w.holds(t)
}

func TestATableOfFunctions(t *testing.T) {
	x := fresh[int, func() int](t, 2)
	x.Put(2, func() int { return 2 })
	x.Put(1, func() int { return 1 })
	for k := 1; k <= 2; k++ {
		if f, ok := x.Get(k); !ok || f == nil || f() != k {
			t.Fatalf("6.1: the function of %d isn't what Get answered", k)
		}
	}
	if f, ok := x.Get(3); ok || f != nil {
		t.Error("6.1: Get of none answered a function")
	}
}

func TestTablesKnowNothingOfOneAnother(t *testing.T) {
	a, b := twinOf[int, string](t, 2), twinOf[int, string](t, 3)
	a.put(t, 1, "a", true)
	b.holds(t, 1)
	b.drop(t, 1, false)
	a.holds(t)
	b.put(t, 1, "b", true)
	a.put(t, 2, "c", true)
	a.put(t, 3, "d", false)
	b.put(t, 3, "e", true)
	a.holds(t, 3)
	b.holds(t, 2)
	spoil(a.x.Keys(), -1)
	b.holds(t, 2)
	a.drop(t, 1, true)
	b.holds(t, 2)
	b.put(t, 2, "f", true)
	b.put(t, 4, "g", false)
	a.holds(t, 1, 3)
	fresh[int, string](t, 1)
	if _, e := table.New[int, string](0); e != api.ErrArg {
		t.Errorf("6.1: New(0) answered %d", e)
	}
	a.holds(t, 1, 3)
	b.holds(t, 4)
}

func TestManyTablesSideBySide(t *testing.T) {
	var all []*twin[int, int]
	for most := 1; most <= 10; most++ {
		all = append(all, twinOf[int, int](t, most))
	}
	for k := range 10 {
		for i, w := range all {
			w.put(t, -k, 100*i+k, k <= i)
		}
	}
	for i, w := range all {
		w.drop(t, -i, true)
		for _, other := range all {
			other.holds(t, 1, -10)
		}
	}
}
