package mail_test

import (
	"math"
	"slices"
	"testing"

	"mooring/api"
	"mooring/mail"
)

// goesThrough puts xs into a box that they fill, one too many, and takes them.
func goesThrough[T comparable](t *testing.T, xs ...T) {
	t.Helper()
	b := fresh[T](t, len(xs))
	takeNone(t, b)
	for range 3 {
		for _, x := range xs {
			put(t, b, x, true)
		}
		put(t, b, xs[0], false)
		holds(t, b, len(xs), xs...)
		drained(t, b, xs...)
	}
}

// pair is a struct with an array in it.
type pair struct {
	Name string
	Nums [3]int
}

func TestBoxesOfManyKinds(t *testing.T) {
	n, m := 1, 1
	goesThrough(t, 0, -1, math.MinInt, math.MaxInt)
	goesThrough[uint64](t, math.MaxUint64, 0, 1)
	goesThrough[byte](t, 255, 0)
	goesThrough(t, 1.5, 0, math.Inf(-1))
	goesThrough(t, false, true, true)
	goesThrough(t, "", "a", "\x00\xff", "äöü")
	goesThrough(t, pair{"a", [3]int{1, 2, 3}}, pair{}, pair{"b", [3]int{0, 0, 9}})
	goesThrough(t, api.ID{Node: 1, Serial: 2}, api.ID{}, api.ID{Node: api.MaxNodes, Serial: api.MaxSerial})
	goesThrough(t, [2]string{"a", "b"}, [2]string{})
	goesThrough(t, &n, nil, &m, &n)
	goesThrough[any](t, nil, 1, "a", pair{})
	goesThrough[error](t, nil, &fault{}, nil)
	goesThrough(t, struct{}{}, struct{}{}, struct{}{})
}

// fault is an error, each of them another.
type fault struct{ _ int }

func (f *fault) Error() string { return "fault" }

func TestABoxOfSlices(t *testing.T) {
	b := fresh[[]int](t, 4)
	if x, ok := b.Take(); x != nil || ok {
		t.Errorf("5.1: Take of none answered %v, %v", x, ok)
	}
	for _, x := range [][]int{{1, 2}, nil, {}, {3}} {
		put(t, b, x, true)
	}
	put(t, b, []int{4}, false)
	if all := b.All(); len(all) != 4 || !slices.Equal(all[0], []int{1, 2}) || len(all[1])+len(all[2]) != 0 || !slices.Equal(all[3], []int{3}) {
		t.Errorf("5.1: All is %v", all)
	}
	for _, want := range [][]int{{1, 2}, {}, {}, {3}} {
		if x, ok := b.Take(); !slices.Equal(x, want) || !ok {
			t.Errorf("5.2: Take answered %v, %v, not %v", x, ok, want)
		}
	}
	if x, ok := b.Take(); x != nil || ok {
		t.Errorf("5.1: Take of none answered %v, %v", x, ok)
	}
}

// The list that All answers is new; a list that is in the box is what was put,
// and neither it nor its spare room is written to.
func TestSlicesInABoxStayAsTheyArePut(t *testing.T) {
	b := fresh[[]int](t, 3)
	whole := []int{1, 2, 3, 4, 5, 6}
	put(t, b, whole[0:2], true)
	put(t, b, whole[2:4], true)
	spoil(b.All(), []int{-1})
	put(t, b, nil, true)
	put(t, b, whole[4:5], false)
	b.All()
	for _, want := range [][]int{{1, 2}, {3, 4}, {}} {
		if x, ok := b.Take(); !slices.Equal(x, want) || !ok {
			t.Errorf("5.2: Take answered %v, %v, not %v", x, ok, want)
		}
	}
	if !slices.Equal(whole, upTo(1, 6)) {
		t.Errorf("R2: what was put, with its spare room, is now %v", whole)
	}
}

func TestABoxOfDatagrams(t *testing.T) {
	b := fresh[api.Datagram](t, 2)
	put(t, b, api.Datagram{From: 1, To: 2, Bytes: []byte("ab")}, true)
	put(t, b, api.Datagram{}, true)
	put(t, b, api.Datagram{From: 9}, false)
	if x, ok := b.Take(); !ok || x.From != 1 || x.To != 2 || string(x.Bytes) != "ab" {
		t.Errorf("5.2: Take answered %v, %v", x, ok)
	}
	if x, ok := b.Take(); !ok || x.From != 0 || x.To != 0 || len(x.Bytes) != 0 {
		t.Errorf("5.2: Take answered %v, %v", x, ok)
	}
	if x, ok := b.Take(); ok || x.From != 0 || x.To != 0 || x.Bytes != nil {
		t.Errorf("5.1: Take of none answered %v, %v", x, ok)
	}
}

func TestABoxOfFunctions(t *testing.T) {
	b := fresh[func() int](t, 2)
	put(t, b, func() int { return 1 }, true)
	put(t, b, func() int { return 2 }, true)
	for want := 1; want <= 2; want++ {
		if f, ok := b.Take(); !ok || f == nil || f() != want {
			t.Fatalf("5.2: the function %d isn't what Take answered", want)
		}
	}
	if f, ok := b.Take(); ok || f != nil {
		t.Error("5.1: Take of none answered a function")
	}
}

func TestAStructIsPutAsItIsThen(t *testing.T) {
	b := fresh[pair](t, 2)
	x := pair{"a", [3]int{1, 2, 3}}
	put(t, b, x, true)
	x.Name, x.Nums[0] = "b", 9
	holds(t, b, 2, pair{"a", [3]int{1, 2, 3}})
	all := b.All()
	all[0].Nums[1] = 9
	take(t, b, pair{"a", [3]int{1, 2, 3}})
}

func TestBoxesKnowNothingOfOneAnother(t *testing.T) {
	a, b := fresh[int](t, 2), fresh[int](t, 3)
	put(t, a, 1, true)
	holds(t, b, 3)
	takeNone(t, b)
	put(t, a, 2, true)
	put(t, a, 3, false)
	put(t, b, 10, true)
	holds(t, a, 2, 1, 2)
	spoil(a.All(), -1)
	holds(t, b, 3, 10)
	take(t, a, 1)
	put(t, b, 11, true)
	put(t, b, 12, true)
	put(t, b, 13, false)
	holds(t, a, 2, 2)
	drained(t, b, 10, 11, 12)
	holds(t, a, 2, 2)
	fresh[int](t, 1)
	if _, e := mail.New[int](0); e != api.ErrArg {
		t.Errorf("5.1: New(0) answered %d", e)
	}
	holds(t, a, 2, 2)
	drained(t, a, 2)
}

func TestManyBoxesSideBySide(t *testing.T) {
	var boxes []*mail.Box[int]
	for most := 1; most <= maxInbox; most++ {
		boxes = append(boxes, fresh[int](t, most))
	}
	for x := range maxInbox {
		for k, b := range boxes {
			put(t, b, 100*k+x, x <= k)
		}
	}
	for k, b := range boxes {
		drained(t, b, upTo(100*k, 100*k+k)...)
	}
}
