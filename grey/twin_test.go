package grey_test

import (
	"slices"
	"testing"

	"mooring/api"
	"mooring/grey"
)

// The document's number a second time, so that a wrong one is met.
const maxGrey = 64

// fresh answers an empty stack of at most most.
func fresh[T any](t *testing.T, most int) *grey.Stack[T] {
	t.Helper()
	s, e := grey.New[T](most)
	if s == nil || e != api.OK {
		t.Fatalf("10.1: New(%d) answered %v, %d", most, s, e)
	}
	return s
}

// twin is a stack, and beside it what should be on it, the lowest first, and
// whether it should be over.
type twin[T comparable] struct {
	s    *grey.Stack[T]
	most int
	held []T
	over bool
}

// twinOf answers a twin of a stack of at most most on which xs were pushed.
func twinOf[T comparable](t *testing.T, most int, xs ...T) *twin[T] {
	t.Helper()
	w := &twin[T]{s: fresh[T](t, most), most: most}
	w.holds(t)
	for _, x := range xs {
		w.push(t, x)
	}
	return w
}

// overTwin answers a twin of a stack that is over, on which are 1 to size.
func overTwin(t *testing.T, most, size int) *twin[int] {
	t.Helper()
	w := twinOf(t, most, upTo(1, most)...)
	w.push(t, -1)
	for range most - size {
		w.pop(t)
	}
	return w
}

// push is a Push, which must go well if there is room, and must not if not.
func (w *twin[T]) push(t *testing.T, x T) {
	t.Helper()
	room := len(w.held) < w.most
	if ok := w.s.Push(x); ok != room {
		t.Fatalf("10.1: with %d of %d on it, Push(%v) answered %v", len(w.held), w.most, x, ok)
	}
	if room {
		w.held = append(w.held, x)
	} else {
		w.over = true
	}
	w.holds(t)
}

// pop is a Pop, which must answer what was pushed last, if there is any.
func (w *twin[T]) pop(t *testing.T) {
	t.Helper()
	var want T
	some := len(w.held) > 0
	if some {
		want = w.held[len(w.held)-1]
		w.held = w.held[:len(w.held)-1]
	}
	if x, ok := w.s.Pop(); x != want || ok != some {
		t.Fatalf("10.1: Pop answered %v, %v, not %v, %v", x, ok, want, some)
	}
	w.holds(t)
}

// rest is a Rest.
func (w *twin[T]) rest(t *testing.T) {
	t.Helper()
	w.s.Rest()
	w.over = false
	w.holds(t)
}

// clear is a Clear.
func (w *twin[T]) clear(t *testing.T) {
	t.Helper()
	w.s.Clear()
	w.held, w.over = nil, false
	w.holds(t)
}

// drains pops all that are on the stack, and once more.
func (w *twin[T]) drains(t *testing.T) {
	t.Helper()
	for len(w.held) > 0 {
		w.pop(t)
	}
	w.pop(t)
}

// holds holds all that the stack can tell without a change against what is
// asked.
func (w *twin[T]) holds(t *testing.T) {
	t.Helper()
	if n := w.s.Len(); n != len(w.held) {
		t.Fatalf("10.1: Len is %d, not %d", n, len(w.held))
	}
	if over := w.s.Over(); over != w.over {
		t.Fatalf("10.1: with %d of %d on it, Over is %v", len(w.held), w.most, over)
	}
	if all := w.s.All(); !slices.Equal(all, w.held) {
		t.Fatalf("10.1: All is %v, not %v", all, w.held)
	}
}

// upTo answers first to last, in order.
func upTo(first, last int) []int {
	var l []int
	for x := first; x <= last; x++ {
		l = append(l, x)
	}
	return l
}

// someMosts are limits that may be, the least and the greatest among them.
var someMosts = []int{1, 2, 3, 4, 5, 7, 8, 9, 16, 33, maxGrey - 1, maxGrey}
