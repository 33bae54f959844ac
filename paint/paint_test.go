package paint_test

import (
	"math"
	"testing"

	"mooring/api"
	"mooring/grey"
	"mooring/heap"
	"mooring/paint"
)

// ofTheExamples answers the chapter's heap: of node 1; 1 has a reference to 2,
// 2 one to {2 7}.
func ofTheExamples(t *testing.T) *heap.Heap {
	t.Helper()
	h, e := heap.New(1, 32, 4, 0)
	if e != api.OK {
		t.Fatalf("the test itself: no heap: %d", e)
	}
	for s, x := range []api.ID{far(1, 2), far(2, 7)} {
		h.Make(1, 0)
		h.SetRef(uint64(1+s), 0, x)
	}
	return h
}

func TestTheChaptersExamples(t *testing.T) {
	p := fresh(t, ofTheExamples(t), 4)
	is := func(serial uint64, want int) {
		t.Helper()
		if rank, grey, ok := p.Mark(serial); rank != want || !grey || !ok {
			t.Errorf("11.2: Mark(%d) answered %d, %v, %v, not %d, grey", serial, rank, grey, ok, want)
		}
	}
	met := func(want int) {
		t.Helper()
		if rank, ok := p.Met(far(2, 7)); rank != want || !ok {
			t.Errorf("11.4: Met({2 7}) answered %d, %v, not %d", rank, ok, want)
		}
	}
	p.Turn()
	p.Shade(far(1, 1), 3)
	is(1, 3)
	if !p.Scan(1) {
		t.Error("11.3: Scan(1) answered false")
	}
	is(2, 3)
	for _, want := range []uint64{2, 1} {
		if s, ok := p.Pop(); s != want || !ok {
			t.Errorf("11.3: Pop answered %d, %v, not %d", s, ok, want)
		}
	}
	if !p.Scan(2) {
		t.Error("11.3: Scan(2) answered false")
	}
	met(3)
	p.Shade(far(1, 2), 0)
	is(2, 0)
	met(3)
	p.Shade(far(1, 9), 0)
	if rank, grey, ok := p.Mark(9); rank != 0 || grey || ok {
		t.Errorf("11.4: Mark(9) answered %d, %v, %v", rank, grey, ok)
	}
}

// The error and the limits are numbers that the document names.
func TestTheNumbers(t *testing.T) {
	if api.OK != 0 || api.ErrArg != 1 || api.MaxGrey != maxGrey || api.MaxDist != maxDist || api.MaxNodes != maxNodes || api.MaxSerial != maxSerial {
		t.Error("11: the errors, or the limits, are other numbers")
	}
}

// newRefused is a New that must answer ErrArg.
func newRefused(t *testing.T, h *heap.Heap, most int) {
	t.Helper()
	if p, e := paint.New(h, most); p != nil || e != api.ErrArg {
		t.Errorf("11.1: New(%v, %d) answered %v, %d", h != nil, most, p, e)
	}
}

// mosts are limits of stacks, such as may be and others.
func mosts() []int {
	l := []int{
		math.MinInt, math.MinInt + 1, math.MinInt32, -1 << 32, -1<<32 + 1, 1 << 8, 1<<8 + 1, 1 << 16, 1<<16 + 1,
		1 << 32, 1<<32 + 1, math.MaxInt32, math.MaxInt - 1, math.MaxInt,
	}
	for n := -100; n <= 200; n++ {
		l = append(l, n)
	}
	return l
}

// Just what grey.New takes.
func TestNewOfEveryMost(t *testing.T) {
	h := ofTheExamples(t)
	took := 0
	for _, most := range mosts() {
		if _, e := grey.New[int](most); e != api.OK {
			newRefused(t, h, most)
			continue
		}
		fresh(t, h, most)
		took++
	}
	if took != maxGrey {
		t.Errorf("11.1: %d limits were taken, not %d", took, maxGrey)
	}
	for _, most := range []int{-1, 0, maxGrey + 1} {
		newRefused(t, h, most)
	}
	fresh(t, h, 1)
	fresh(t, h, maxGrey)
}

func TestNewWithoutAHeap(t *testing.T) {
	for _, most := range mosts() {
		newRefused(t, nil, most)
	}
}

// Of a new paint nothing is marked or met, ahead of the first Turn too.
func TestNewIsEmpty(t *testing.T) {
	for _, most := range []int{1, 2, maxGrey} {
		w := twinOf(t, heapOf(t, []api.ID{own(2), far(2, 7)}, []api.ID{own(1)}, nil), most)
		w.holds(t)
		w.drains(t)
		if w.p.Turns() != 0 || w.p.Waiting() != 0 || w.p.Over() || len(w.p.Outs()) != 0 {
			t.Errorf("11.1: of New(h, %d), Turns is %d, Waiting %d, Over %v, Outs %v", most, w.p.Turns(), w.p.Waiting(), w.p.Over(), w.p.Outs())
		}
		if w.scan(t, 1) || w.scan(t, 4) {
			t.Errorf("11.3: of New(h, %d), Scan answered true", most)
		}
	}
	twinWith(t).holds(t)
}

// A paint can be used ahead of its first Turn.
func TestNewGoesOnWithoutATurn(t *testing.T) {
	w := twinWith(t, []api.ID{own(2), far(2, 7)}, nil)
	w.shade(own(1), 5)
	w.scan(t, 1)
	w.blacken(2)
	w.holds(t)
	w.drains(t)
	if w.p.Turns() != 0 {
		t.Errorf("11.1: without a Turn, Turns is %d", w.p.Turns())
	}
}

// A refused New has changed nothing of the heap, and a paint never does.
func TestThePaintLeavesTheHeap(t *testing.T) {
	h := heapOf(t, []api.ID{own(2), own(1), own(9), far(2, 7), none}, []api.ID{own(1)}, nil)
	as := h.Len() + h.Used() + int(h.Last())
	w := twinOf(t, h, 2)
	newRefused(t, h, 0)
	for rank := range 3 {
		w.shade(own(1), 2-rank)
		w.shade(own(3), 2-rank)
		w.scan(t, 1)
		w.blacken(2)
		w.forget(2)
		w.turn()
	}
	want := [][]api.ID{{own(2), own(1), own(9), far(2, 7), none}, {own(1)}, {}}
	for i, l := range want {
		o, ok := h.Object(uint64(1 + i))
		if !ok || len(o.Refs) != len(l) || o.In != 0 {
			t.Fatalf("11: the object %d is %v, %v behind a paint's calls", 1+i, o, ok)
		}
		for k, x := range l {
			if o.Refs[k] != x {
				t.Errorf("11: a reference of %d was %v, and is %v", 1+i, x, o.Refs[k])
			}
		}
	}
	if now := h.Len() + h.Used() + int(h.Last()); now != as {
		t.Error("11: a paint's calls have turned the heap")
	}
}
