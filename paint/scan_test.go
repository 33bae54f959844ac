package paint_test

import (
	"math"
	"slices"
	"testing"

	"mooring/api"
)

func TestBlacken(t *testing.T) {
	w := twinWith(t, []api.ID{own(2), far(2, 7)}, nil, nil)
	w.blacken(1)
	if !w.is(1, 0, false) || w.p.Waiting() != 0 || len(w.p.Outs()) != 0 {
		t.Errorf("11.3: behind Blacken(1), Waiting is %d, Outs %v", w.p.Waiting(), w.p.Outs())
	}
	w.holds(t)
	if w.scan(t, 1) {
		t.Error("11.3: one that was Blackened was Scanned")
	}
	for _, rank := range []int{-1, 0, 1, maxDist} {
		w.shade(own(1), rank)
	}
	w.blacken(1)
	if !w.is(1, 0, false) {
		t.Error("11.2: one that was Blackened was marked anew")
	}
	w.holds(t)
	w.drains(t)
}

func TestBlackenLeavesOneThatIsMarked(t *testing.T) {
	for _, rank := range []int{0, 1, 9, maxDist} {
		w := twinWith(t, []api.ID{far(2, 7)})
		w.shade(own(1), rank)
		w.blacken(1)
		if !w.is(1, rank, true) || w.p.Waiting() != 1 {
			t.Errorf("11.3: Blacken turned one that is grey with the rank %d", rank)
		}
		if !w.scan(t, 1) {
			t.Error("11.3: behind Blacken, one that is grey was not Scanned")
		}
		w.blacken(1)
		if !w.is(1, rank, false) {
			t.Errorf("11.3: Blacken turned one that is marked with the rank %d", rank)
		}
		w.holds(t)
		w.drains(t)
	}
}

func TestBlackenOfNoObject(t *testing.T) {
	w := twinWith(t, nil, nil)
	w.free(t, 2)
	for _, s := range append(w.serials(), 2) {
		if s != 1 {
			w.blacken(s)
		}
	}
	w.holds(t)
	if _, _, ok := w.p.Mark(2); ok {
		t.Error("11.3: one that was freed was Blackened")
	}
}

// One that isn't there yet, when it is Blackened, is not marked later either.
func TestNoMarkAheadOfTheObject(t *testing.T) {
	w := twinWith(t, nil)
	w.blacken(2)
	w.shade(own(2), 3)
	w.forget(2)
	if s, e := w.h.Make(0, 0); s != 2 || e != api.OK {
		t.Fatalf("the test itself: Make answered %d, %d", s, e)
	}
	if _, _, ok := w.p.Mark(2); ok || w.p.Waiting() != 0 {
		t.Error("11.4: an object is marked that was made later")
	}
	w.holds(t)
	w.shade(own(2), 3)
	w.holds(t)
	w.drains(t)
}

func TestScanRefuses(t *testing.T) {
	w := twinWith(t, []api.ID{own(2), far(2, 7)}, []api.ID{far(4, 1)}, []api.ID{far(4, 2)}, []api.ID{far(4, 3)})
	for _, s := range []uint64{0, 1, 2, 5, 1 << 32, maxSerial, maxSerial + 1, math.MaxUint64} {
		if w.scan(t, s) {
			t.Errorf("11.3: Scan(%d) of none that is marked answered true", s)
		}
		w.holds(t)
	}
	w.shade(own(1), 3)
	w.blacken(3)
	w.shade(own(4), 5)
	w.free(t, 4)
	for _, s := range []uint64{3, 4, 5, 1<<32 | 1, 1<<56 | 1} {
		if w.scan(t, s) {
			t.Errorf("11.3: Scan(%d) answered true", s)
		}
		w.holds(t)
	}
	w.scan(t, 1)
	if w.scan(t, 1) || w.scan(t, 1) {
		t.Error("11.3: one that is grey no more was Scanned")
	}
	w.holds(t)
	w.forget(2)
	if w.scan(t, 2) {
		t.Error("11.3: one that was Forgotten was Scanned")
	}
	w.turn()
	if w.scan(t, 1) || w.scan(t, 2) {
		t.Error("11.3: one was Scanned behind a Turn")
	}
	w.holds(t)
}

// pops answers all that is popped, till there is none.
func (w *twin) pops(t *testing.T) []uint64 {
	t.Helper()
	var l []uint64
	for s, ok := w.pop(t); ok; s, ok = w.pop(t) {
		l = append(l, s)
	}
	return l
}

func TestScanShadesInOrder(t *testing.T) {
	refs := []api.ID{own(4), far(2, 7), own(2), none, own(5), own(9), own(3)}
	w := twinWith(t, refs, nil, nil, nil, nil)
	w.shade(own(1), 6)
	w.pop(t)
	if !w.scan(t, 1) || !w.is(1, 6, false) {
		t.Error("11.3: one that was Scanned is still grey")
	}
	w.holds(t)
	for s := uint64(2); s <= 5; s++ {
		if !w.is(s, 6, true) {
			t.Errorf("11.3: what was found by a Scan is not grey with its rank: %d", s)
		}
	}
	if got := w.pops(t); !slices.Equal(got, []uint64{3, 5, 2, 4}) {
		t.Errorf("11.3: behind a Scan, the stack holds %v, the highest first", got)
	}
	if got := w.p.Outs(); !slices.Equal(got, []api.Out{{ID: far(2, 7), Rank: 6}}) {
		t.Errorf("11.3: behind a Scan, Outs is %v", got)
	}
}

// Those that come first find the room.
func TestScanShadesTheFirstOnesFirst(t *testing.T) {
	for most := 1; most <= 5; most++ {
		w := twinOf(t, heapOf(t, []api.ID{own(5), own(3), own(4), own(2)}, nil, nil, nil, nil), most)
		w.shade(own(1), 2)
		w.pop(t)
		w.scan(t, 1)
		want := []uint64{5, 3, 4, 2}[:min(most, 4)]
		slices.Reverse(want)
		if got := w.pops(t); !slices.Equal(got, want) || w.p.Over() != (most < 4) {
			t.Errorf("11.3: of %d places, a Scan pushed %v, Over is %v", most, got, w.p.Over())
		}
		w.holds(t)
	}
}

// It shades with the rank that it has, not with one that it had.
func TestScanShadesWithTheLastRank(t *testing.T) {
	w := twinWith(t, []api.ID{own(2), far(2, 7)}, nil)
	w.shade(own(1), 9)
	w.shade(own(1), 4)
	w.scan(t, 1)
	if rank, ok := w.p.Met(far(2, 7)); !w.is(2, 4, true) || rank != 4 || !ok {
		t.Errorf("11.3: Scanned with the rank 4, it met with %d, %v", rank, ok)
	}
	w.shade(own(1), 1)
	if rank, _ := w.p.Met(far(2, 7)); !w.is(2, 4, true) || rank != 4 {
		t.Error("11.2: Shade went through references")
	}
	w.scan(t, 1)
	if rank, _ := w.p.Met(far(2, 7)); !w.is(2, 1, true) || rank != 1 {
		t.Error("11.3: Scanned anew, it did not hand on its lesser rank")
	}
	w.holds(t)
	w.drains(t)
}

func TestScanOfOneThatLeadsToItself(t *testing.T) {
	w := twinWith(t, []api.ID{own(1), own(2), own(1)}, []api.ID{own(1), own(2)})
	w.shade(own(1), 5)
	w.pop(t)
	w.scan(t, 1)
	if !w.is(1, 5, false) || w.p.Waiting() != 1 {
		t.Errorf("11.3: one that leads to itself is grey, or was pushed: Waiting is %d", w.p.Waiting())
	}
	w.holds(t)
	w.scan(t, 2)
	w.holds(t)
	w.shade(own(2), 1)
	w.scan(t, 2)
	if !w.is(1, 1, true) || !w.is(2, 1, false) {
		t.Error("11.3: a lesser rank did not go round")
	}
	w.holds(t)
	w.drains(t)
}

func TestScanOfOneThatStandsTwice(t *testing.T) {
	w := twinWith(t, []api.ID{own(2), own(2), far(2, 7), own(3), far(2, 7), own(2)}, nil, nil)
	w.shade(own(1), 5)
	w.pop(t)
	w.scan(t, 1)
	if got := w.pops(t); !slices.Equal(got, []uint64{3, 2}) {
		t.Errorf("11.3: of references that stand twice, a Scan pushed %v", got)
	}
	if len(w.p.Outs()) != 1 {
		t.Errorf("11.3: of a remote reference that stands twice, Outs is %v", w.p.Outs())
	}
	w.holds(t)
}

// A Scan of a grey object that is not on the stack, or stands below others, is
// the same; what is on the stack stays.
func TestScanLeavesTheStack(t *testing.T) {
	w := twinWith(t, nil, nil, nil)
	for s := uint64(1); s <= 3; s++ {
		w.shade(own(s), 2)
	}
	w.scan(t, 2)
	w.scan(t, 1)
	w.holds(t)
	if got := w.pops(t); !slices.Equal(got, []uint64{3, 2, 1}) {
		t.Errorf("11.3: behind Scans, the stack held %v", got)
	}
	if !w.scan(t, 3) {
		t.Error("11.3: one that was popped was not Scanned")
	}
}

// A Scan sees the references as they are now.
func TestScanSeesTheHeapAsItIs(t *testing.T) {
	w := twinWith(t, []api.ID{own(2)}, nil, nil)
	w.shade(own(1), 2)
	if _, e := w.h.SetRef(1, 0, own(3)); e != api.OK {
		t.Fatalf("the test itself: SetRef answered %d", e)
	}
	w.scan(t, 1)
	if _, _, ok := w.p.Mark(2); ok || !w.is(3, 2, true) {
		t.Error("11.3: a Scan went by references that were written over")
	}
	w.holds(t)
}

func TestPopWaitingOverRest(t *testing.T) {
	w := twinOf(t, heapOf(t, nil, nil, nil, nil), 2)
	for s := uint64(1); s <= 4; s++ {
		w.shade(own(s), int(s))
		w.holds(t)
	}
	if !w.p.Over() || w.p.Waiting() != 2 {
		t.Errorf("11.3: Waiting is %d, Over %v", w.p.Waiting(), w.p.Over())
	}
	w.pop(t)
	if !w.p.Over() {
		t.Error("11.3: the stack rests behind a Pop")
	}
	w.rest()
	w.rest()
	if w.p.Over() || w.p.Waiting() != 1 {
		t.Errorf("11.3: behind a Rest, Over is %v, Waiting %d", w.p.Over(), w.p.Waiting())
	}
	w.holds(t)
	w.drains(t)
	if s, ok := w.p.Pop(); s != 0 || ok {
		t.Errorf("11.3: Pop of an empty stack answered %d, %v", s, ok)
	}
	w.rest()
	w.holds(t)
}

// Marks are left as they are by what the stack does.
func TestPopAndRestLeaveMarks(t *testing.T) {
	w := twinOf(t, heapOf(t, nil, nil), 1)
	w.shade(own(1), 3)
	w.shade(own(2), 4)
	w.pop(t)
	w.rest()
	w.pop(t)
	if !w.is(1, 3, true) || !w.is(2, 4, true) {
		t.Error("11.3: Pop, or Rest, has turned a mark")
	}
	w.holds(t)
}
