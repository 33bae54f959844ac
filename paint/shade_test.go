package paint_test

import (
	"math"
	"slices"
	"testing"

	"mooring/api"
	"mooring/heap"
)

func TestShadeBringsRanksIn(t *testing.T) {
	for _, rank := range someRanks {
		w := twinWith(t, nil)
		w.shade(own(1), rank)
		w.shade(far(2, 7), rank)
		w.holds(t)
		w.drains(t)
	}
	wants := map[int]int{math.MinInt: 0, -1: 0, 0: 0, 1: 1, 39: 39, 40: 40, 41: 40, math.MaxInt: 40}
	for rank, want := range wants {
		w := twinWith(t, nil)
		w.shade(own(1), rank)
		w.shade(far(2, 7), rank)
		if got, ok := w.p.Met(far(2, 7)); !w.is(1, want, true) || got != want || !ok {
			t.Errorf("11.2: Shade with the rank %d: met with %d, %v, not %d", rank, got, ok, want)
		}
	}
}

func TestShadeOfNothing(t *testing.T) {
	w := twinWith(t, []api.ID{own(2), far(2, 7)}, nil, nil)
	w.free(t, 3)
	nothing := slices.Concat(wrongIDs, []api.ID{none, own(3), own(4), own(5), own(1<<32 + 1), own(maxSerial)})
	for _, rank := range []int{math.MinInt, -1, 0, 3, maxDist, math.MaxInt} {
		for _, x := range nothing {
			w.shade(x, rank)
			if w.p.Waiting() != 0 || len(w.p.Outs()) != 0 {
				t.Fatalf("11.2: Shade(%v, %d) of nothing: Waiting is %d, Outs %v", x, rank, w.p.Waiting(), w.p.Outs())
			}
		}
		w.holds(t)
	}
	w.shade(own(1), 3)
	w.shade(far(2, 7), 3)
	for _, x := range nothing {
		w.shade(x, 0)
	}
	w.holds(t)
	w.drains(t)
}

func TestShadeOfALocalObject(t *testing.T) {
	w := twinWith(t, []api.ID{own(2), far(2, 7)}, []api.ID{far(4, 1)})
	w.shade(own(1), 3)
	w.holds(t)
	if !w.is(1, 3, true) || w.p.Waiting() != 1 || len(w.p.Outs()) != 0 {
		t.Errorf("11.2: behind Shade({3 1}, 3), Waiting is %d, Outs %v", w.p.Waiting(), w.p.Outs())
	}
	if _, _, ok := w.p.Mark(2); ok {
		t.Error("11.2: Shade of an object marked what it leads to")
	}
	w.drains(t)
}

// Whether an ID is local hangs on the heap's node, be it the least or the
// greatest.
func TestLocalIsOfTheHeapsNode(t *testing.T) {
	for _, node := range []int{1, 2, 33, maxNodes - 1, maxNodes} {
		h, e := heap.New(node, 16, 1, maxSerial-1)
		if s, made := h.Make(0, 0); e != api.OK || made != api.OK || s != maxSerial {
			t.Fatalf("the test itself: Make answered %d, %d", s, made)
		}
		p := fresh(t, h, 1)
		others := 0
		for n := 1; n <= maxNodes; n++ {
			p.Shade(far(n, maxSerial), 2)
			if _, ok := p.Met(far(n, maxSerial)); ok != (n != node) {
				t.Errorf("11.2: at the node %d, Met({%d ..}) answered %v", node, n, ok)
			}
			if n != node {
				others++
			}
			if len(p.Outs()) != others {
				t.Errorf("11.2: at the node %d, %d were met, not %d", node, len(p.Outs()), others)
			}
		}
		if s, ok := p.Pop(); s != maxSerial || !ok || p.Over() || p.Waiting() != 0 {
			t.Errorf("11.2: at the node %d, Pop answered %d, %v", node, s, ok)
		}
	}
}

// A remote ID may have the serial of a local object: neither hangs on the other.
func TestARemoteSerialIsNoLocalOne(t *testing.T) {
	w := twinWith(t, nil, nil)
	w.shade(far(2, 1), 4)
	w.shade(own(2), 5)
	w.holds(t)
	w.shade(far(2, 2), 0)
	w.shade(own(1), 6)
	w.holds(t)
	w.drains(t)
}

// Each rank behind each other one, of an object that is grey and of one that
// is not.
func TestALesserRankAloneMarksAnew(t *testing.T) {
	for first := 0; first <= maxDist; first++ {
		for second := 0; second <= maxDist; second++ {
			w := twinWith(t, nil)
			w.shade(own(1), first)
			w.shade(own(1), second)
			if !w.is(1, min(first, second), true) || w.p.Waiting() != 1 {
				t.Fatalf("11.2: Shaded with %d, then %d: Waiting is %d", first, second, w.p.Waiting())
			}
			w.drains(t)
			w = twinWith(t, nil)
			w.shade(own(1), first)
			w.scan(t, 1)
			w.shade(own(1), second)
			again := second < first
			if !w.is(1, min(first, second), again) || w.p.Waiting() != map[bool]int{false: 1, true: 2}[again] {
				t.Fatalf("11.2: Shaded with %d, Scanned, Shaded with %d: Waiting is %d", first, second, w.p.Waiting())
			}
			w.drains(t)
		}
	}
}

// A rank is held against the other one as it is brought in.
func TestRanksAreBroughtInFirst(t *testing.T) {
	for _, first := range someRanks {
		for _, second := range someRanks {
			w := twinWith(t, nil)
			w.shade(own(1), first)
			w.scan(t, 1)
			w.shade(own(1), second)
			w.shade(far(2, 7), first)
			w.shade(far(2, 7), second)
			w.holds(t)
			w.drains(t)
		}
	}
}

// One that was popped and not Scanned is still grey: it is not pushed again.
func TestOneThatIsGreyIsNotPushedAgain(t *testing.T) {
	w := twinWith(t, nil, nil)
	w.shade(own(1), 9)
	w.pop(t)
	w.shade(own(1), 4)
	w.shade(own(1), 0)
	if !w.is(1, 0, true) || w.p.Waiting() != 0 {
		t.Errorf("11.2: one that is grey, and not on the stack, was pushed: Waiting is %d", w.p.Waiting())
	}
	w.holds(t)
	w.scan(t, 1)
	w.shade(own(2), 1)
	w.shade(own(1), 0)
	w.holds(t)
	w.drains(t)
}

func TestOneThatFindsNoRoomIsGrey(t *testing.T) {
	for _, most := range []int{1, 2, 7, maxGrey} {
		w := twinOf(t, heapOf(t, make([][]api.ID, maxObjects)...), most)
		for s := uint64(1); s <= maxObjects; s++ {
			w.shade(own(s), int(s)%maxDist)
			if over := int(s) > most; !w.is(s, int(s)%maxDist, true) || w.p.Over() != over || w.p.Waiting() != min(int(s), most) {
				t.Fatalf("11.2: of %d places, behind %d Shades: Waiting is %d, Over %v", most, s, w.p.Waiting(), w.p.Over())
			}
			w.holds(t)
		}
		w.shade(own(maxObjects), 0)
		w.holds(t)
		w.drains(t)
	}
}

// One that is grey needs no room, so the stack isn't over by it.
func TestOneThatIsGreyNeedsNoRoom(t *testing.T) {
	w := twinOf(t, heapOf(t, nil, nil, nil), 1)
	w.shade(own(1), 9)
	w.shade(own(1), 8)
	w.shade(own(1), 8)
	w.shade(own(4), 8)
	w.shade(far(2, 7), 8)
	if w.p.Over() {
		t.Error("11.2: the stack is over, and none was pushed without room")
	}
	w.shade(own(2), 9)
	w.rest()
	w.shade(own(2), 3)
	if w.p.Over() || !w.is(2, 3, true) {
		t.Error("11.2: one that was grey without being on the stack was pushed")
	}
	w.scan(t, 2)
	w.shade(own(2), 2)
	if !w.p.Over() || !w.is(2, 2, true) {
		t.Error("11.2: one that was not grey any more was not pushed")
	}
	w.holds(t)
	w.drains(t)
}

func TestARemoteKeepsItsLeastRank(t *testing.T) {
	for first := 0; first <= maxDist; first++ {
		for second := 0; second <= maxDist; second++ {
			w := twinWith(t, nil)
			w.shade(far(2, 7), first)
			w.shade(far(2, 7), second)
			if rank, ok := w.p.Met(far(2, 7)); rank != min(first, second) || !ok {
				t.Fatalf("11.2: met with %d, then %d: Met answered %d, %v", first, second, rank, ok)
			}
		}
	}
	w := twinWith(t)
	for k, rank := range []int{9, 12, 5, 5, 6, 0, 40} {
		for _, x := range farIDs {
			w.shade(x, rank+k%2)
		}
		w.holds(t)
	}
	if w.p.Waiting() != 0 || w.p.Over() {
		t.Errorf("11.2: remote IDs went on the stack: Waiting is %d", w.p.Waiting())
	}
}

// Many more may be met than a stack has places.
func TestMeetingHasNoLimit(t *testing.T) {
	w := twinOf(t, heapOf(t), 1)
	for n := range 1000 {
		x := far(4+n%maxDist, uint64(1+n*7919%1000))
		w.p.Shade(x, n%maxDist)
		w.meets(x, n%maxDist)
	}
	w.holds(t)
	if len(w.p.Outs()) != 1000 {
		t.Errorf("11.4: %d were met, not 1000", len(w.p.Outs()))
	}
}
