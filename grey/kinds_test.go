package grey_test

import (
	"math"
	"slices"
	"testing"

	"mooring/api"
)

// goesThrough does all that a stack can do with xs, which fill it.
func goesThrough[T comparable](t *testing.T, xs ...T) {
	t.Helper()
	var zero T
	w := twinOf[T](t, len(xs))
	w.pop(t)
	for range 2 {
		for _, x := range xs {
			w.push(t, x)
		}
		w.push(t, xs[0])
		spoil(w.s.All(), zero)
		w.holds(t)
		w.pop(t)
		w.rest(t)
		w.push(t, xs[0])
		w.drains(t)
		w.push(t, xs[len(xs)-1])
		w.clear(t)
	}
}

// pair is a struct with an array in it.
type pair struct {
	Name string
	Nums [3]int
}

// fault is an error, each of them another.
type fault struct{ _ int }

func (f *fault) Error() string { return "fault" }

func TestStacksOfManyKinds(t *testing.T) {
	n, m := 1, 1
	goesThrough(t, 0, -1, math.MinInt, math.MaxInt)
	goesThrough[uint64](t, math.MaxUint64, 0, 1)
	goesThrough[byte](t, 255, 0)
	goesThrough(t, 1.5, 0, math.Inf(-1))
	goesThrough(t, false, true, true)
	goesThrough(t, "", "a", "\x00\xff", "äöü")
	goesThrough(t, pair{"a", [3]int{1, 2, 3}}, pair{}, pair{"b", [3]int{0, 0, 9}})
	goesThrough(t, api.ID{Node: 1, Serial: 2}, api.ID{}, api.ID{Node: api.MaxNodes, Serial: api.MaxSerial})
	goesThrough(t, [2]string{"a", "b"}, [2]string{})
	goesThrough(t, &n, nil, &m, &n)
	goesThrough[any](t, nil, 1, "a", pair{})
	goesThrough[error](t, nil, &fault{}, nil)
	goesThrough(t, struct{}{}, struct{}{}, struct{}{})
}

// poppedLists pops lists, the top first, and then none.
func poppedLists(t *testing.T, pop func() ([]int, bool), want ...[]int) {
	t.Helper()
	for _, l := range want {
		if x, ok := pop(); !slices.Equal(x, l) || !ok {
			t.Errorf("10.1: Pop answered %v, %v, not %v", x, ok, l)
		}
	}
	if x, ok := pop(); x != nil || ok {
		t.Errorf("10.1: Pop of an empty stack answered %v, %v", x, ok)
	}
}

func TestAStackOfLists(t *testing.T) {
	s := fresh[[]int](t, 4)
	poppedLists(t, s.Pop)
	for _, x := range [][]int{{1, 2}, nil, {}, {3}} {
		if !s.Push(x) {
			t.Errorf("10.1: Push(%v) answered false", x)
		}
	}
	if s.Push([]int{4}) || !s.Over() || s.Len() != 4 {
		t.Errorf("10.1: Push onto a full stack: Over %v, Len %d", s.Over(), s.Len())
	}
	if all := s.All(); len(all) != 4 || !slices.Equal(all[0], []int{1, 2}) || len(all[1])+len(all[2]) != 0 || !slices.Equal(all[3], []int{3}) {
		t.Errorf("10.1: All is %v", all)
	}
	poppedLists(t, s.Pop, []int{3}, nil, nil, []int{1, 2})
}

// The list that All answers is new; a list that is on the stack is what was
// pushed, and neither it nor its spare room is written to.
func TestListsOnAStackStayAsTheyArePushed(t *testing.T) {
	s := fresh[[]int](t, 3)
	whole := upTo(1, 6)
	s.Push(whole[0:2])
	s.Push(whole[2:4])
	spoil(s.All(), []int{-1})
	s.Push(nil)
	s.Push(whole[4:5])
	s.All()
	poppedLists(t, s.Pop, nil, []int{3, 4}, []int{1, 2})
	s.Push(whole[1:3])
	s.Clear()
	if !slices.Equal(whole, upTo(1, 6)) {
		t.Errorf("R2: what was pushed, with its spare room, is now %v", whole)
	}
}

func TestAStackOfFunctions(t *testing.T) {
	s := fresh[func() int](t, 2)
	s.Push(func() int { return 1 })
	s.Push(func() int { return 2 })
	for want := 2; want >= 1; want-- {
		if f, ok := s.Pop(); !ok || f == nil || f() != want {
			t.Fatalf("10.1: the function %d isn't what Pop answered", want)
		}
	}
	if f, ok := s.Pop(); ok || f != nil {
		t.Error("10.1: Pop of an empty stack answered a function")
	}
}

func TestAStructIsPushedAsItIsThen(t *testing.T) {
	w := twinOf[pair](t, 2)
	x := pair{"a", [3]int{1, 2, 3}}
	w.push(t, x)
	x.Name, x.Nums[0] = "b", 9
	w.holds(t)
	all := w.s.All()
	all[0].Nums[1] = 9
	w.holds(t)
	w.drains(t)
}

// Nothing asks whether one is equal to another, so one that is not even equal
// to itself goes on and off as any other.
func TestAStackOfNaN(t *testing.T) {
	s := fresh[float64](t, 2)
	if !s.Push(math.NaN()) || !s.Push(1) || s.Push(math.NaN()) {
		t.Error("10.1: Push of a NaN")
	}
	if all := s.All(); len(all) != 2 || !math.IsNaN(all[0]) || all[1] != 1 {
		t.Errorf("10.1: All is %v", all)
	}
	if x, ok := s.Pop(); x != 1 || !ok {
		t.Errorf("10.1: Pop answered %v, %v", x, ok)
	}
	if x, ok := s.Pop(); !math.IsNaN(x) || !ok {
		t.Errorf("10.1: Pop answered %v, %v", x, ok)
	}
}
