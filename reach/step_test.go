package reach_test

import (
	"fmt"
	"slices"
	"testing"

	"mooring/api"
	"mooring/heap"
	"mooring/paint"
)

// watched is a remote ID that the tests write into an object, to find out when
// that is gone through.
var watched = api.ID{Node: 60, Serial: 60}

// takenAt answers which Step, from 1 on, goes through an object: written behind
// that one, a reference is not met any more. The object's last reference is
// written over. 0, if none does.
func takenAt(t *testing.T, serial uint64, things ...thing) int {
	t.Helper()
	for k := 0; ; k++ {
		s := sideOf(t, 0, things...).meets(maxDist, watched)
		r := s.reacher(t, 3)
		for range k {
			if !r.Step() {
				t.Fatalf("14.2: Step %d answered false, and %d was seen behind it", k, serial)
			}
		}
		o, _ := s.h.Object(serial)
		s.h.SetRef(serial, len(o.Refs)-1, watched)
		runs(t, r)
		seen := slices.ContainsFunc(r.Rows(), func(w api.Reach) bool { return slices.Contains(w.Outs, watched) })
		if !seen {
			return k
		}
	}
}

// takes looks at the order in which objects are gone through, with the Step of
// each; 0 stands for one that never is. Their last references are none.
func takes(t *testing.T, want []int, things ...thing) {
	t.Helper()
	for i := range things {
		things[i].refs = append(slices.Clone(things[i].refs), none)
	}
	for i, k := range want {
		if got := takenAt(t, uint64(i+1), things...); got != k {
			t.Errorf("14.2: of %v, %d is gone through by Step %d, not %d", things, i+1, got, k)
		}
	}
}

// What was put there last is taken off first; references are gone through in
// their order, and what is found through one comes ahead of what waited.
func TestTheLastThatWasPutIsTakenFirst(t *testing.T) {
	takes(t, []int{2, 4, 3}, held(5, 5, to(2, 3)...), held(0, 5), held(0, 5))
	takes(t, []int{2, 3, 4}, held(5, 5, to(3, 2)...), held(0, 5), held(0, 5))
	takes(t, []int{2, 5, 3, 4}, held(5, 5, to(2, 3)...), held(0, 5), held(0, 5, to(4)...), held(0, 5))
	takes(t, []int{2, 3, 4, 5}, held(5, 5, to(4, 3, 2)...), held(0, 5, to(3)...), held(0, 5), held(0, 5))
	takes(t, []int{2, 3, 6, 4, 5}, held(5, 5, to(3, 2)...), held(0, 5, to(5, 4)...), held(0, 5), held(0, 5, to(5)...), held(0, 5))
}

// One that is in the row is not put there again, whether it waits, or was gone
// through: the order stays that of the first time.
func TestOnceInARow(t *testing.T) {
	takes(t, []int{2, 4, 3}, held(5, 5, to(2, 3, 2)...), held(0, 5), held(0, 5))
	takes(t, []int{2, 5, 4, 3}, held(5, 5, to(2, 3, 4, 3, 2, 1)...), held(0, 5), held(0, 5), held(0, 5))
	takes(t, []int{2, 4, 3}, held(5, 5, to(1, 2, 3)...), held(0, 5, to(1, 2, 3)...), held(0, 5, to(3, 2, 1)...))
	s := sideOf(t, 0, held(5, 5, to(1, 2, 2, 1)...), held(0, 5, to(2, 1, 2)...))
	r := s.reacher(t, 3)
	walks(t, r, "", "", "", "", "1:")
	ends(t, r, "1:")
}

// What is not suspect is not gone through, and what only it leads to is not
// either.
func TestWhatIsNotSuspectLeadsNowhere(t *testing.T) {
	for _, rank := range []int{bare, 0, 1, 3} {
		takes(t, []int{2, 0, 0, 3}, held(5, 5, to(2, 4)...), held(0, rank, to(3)...), held(0, 5), held(0, 4))
	}
	s := sideOf(t, 0, held(5, 5, own(2), far(2, 1)), held(0, 3, own(3), far(2, 2)), held(0, 5, far(2, 3))).meets(9, far(2, 1), far(2, 2), far(2, 3))
	r := s.reacher(t, 3)
	walks(t, r, "", "", "", "", "1:2.1")
	ends(t, r, "1:2.1")
}

// One that nobody else holds begins no row, however suspect it is, nor one that
// others hold but is not suspect; the place moves on all the same, one a Step.
func TestWhatBeginsNoRow(t *testing.T) {
	s := sideOf(t, 0, held(0, 9, far(2, 1)), held(5, 3, far(2, 1)), held(40, bare, far(2, 1)), held(0, bare), held(5, 0)).meets(9, far(2, 1))
	r := s.reacher(t, 3)
	walks(t, r, "", "", "", "", "")
	ends(t, r, "")
}

// Each In above 0 will do; it is no rank, and the bound does not hold for it.
func TestEveryInBeginsARow(t *testing.T) {
	for in := 1; in <= maxDist; in++ {
		s := sideOf(t, 0, held(in, 9))
		r := s.reacher(t, 8)
		walks(t, r, "", "", "1:")
		ends(t, r, "1:")
	}
}

// A row stays under way, and is not told, while the place goes past objects that
// begin none; it is ended by the Step in which another begins, and else by a
// Step of its own.
func TestWhenARowIsEnded(t *testing.T) {
	s := sideOf(t, 0, held(0, bare), held(5, 5), held(0, 5), held(2, 1), held(5, 5), held(5, 5), held(0, bare), held(5, bare))
	r := s.reacher(t, 3)
	walks(t, r, "", "", "") // 1; 2, which begins; 2 is gone through
	walks(t, r, "", "")     // past 3 and 4
	walks(t, r, "2:", "2:") // 5, which begins; it is gone through
	walks(t, r, "2: 5:", "2: 5:")
	walks(t, r, "2: 5:", "2: 5:") // past 7 and 8
	walks(t, r, "2: 5: 6:")
	ends(t, r, "2: 5: 6:")
}

// While objects wait, the place stays: what is above it begins no row yet.
func TestThePlaceStaysWhileObjectsWait(t *testing.T) {
	s := sideOf(t, 0, held(5, 5, to(2, 3)...), held(5, 5), held(5, 5, to(2)...))
	r := s.reacher(t, 3)
	walks(t, r, "", "", "", "")      // 1 begins; 1, 3, 2 are gone through
	walks(t, r, "1:", "1:")          // 2 begins, and is gone through
	walks(t, r, "1: 2:", "1: 2:")    // 3 begins, and is gone through
	walks(t, r, "1: 2:", "1: 2: 3:") // 2 is gone through again
	ends(t, r, "1: 2: 3:")
}

// Local is what is of the heap's node: a remote ID with a serial of one's own is
// remote, and one's own ID is never among the Outs.
func TestLocalAndRemote(t *testing.T) {
	s := sideOf(t, 0, held(5, 5, far(here-1, 2), far(here+1, 2), own(2)), held(0, 5, own(1), far(here+1, 1))).meets(9, far(here-1, 2), far(here+1, 1))
	r := s.reacher(t, 3)
	walks(t, r, "", "", "", "", "1:2.2,4.1")
	ends(t, r, "1:2.2,4.1")
}

// Each node may be the heap's, the first and the last too.
func TestEveryNode(t *testing.T) {
	for _, node := range []int{1, 2, here, maxNodes - 1, maxNodes} {
		h, e := heap.New(node, 64, 8, 0)
		if e != api.OK {
			t.Fatalf("the test itself: no heap: %d", e)
		}
		p, _ := paint.New(h, 4)
		before, behind := far(1+node%maxNodes, 2), far(1+(node+30)%maxNodes, 1)
		h.Make(3, 0)
		h.Make(1, 0)
		h.SetRef(1, 0, far(node, 2))
		h.SetRef(1, 1, before)
		h.SetRef(2, 0, behind)
		h.SetIn(1, 5)
		for _, x := range []api.ID{far(node, 1), far(node, 2), before, behind} {
			p.Shade(x, 9)
		}
		s := side{h, p, 0}
		r := s.reacher(t, 3)
		want := drawnRow(1, rising([]api.ID{before, behind}))
		walks(t, r, "", "", "", "", want)
		ends(t, r, want)
	}
}

// None, and IDs of no object, lead nowhere.
func TestNoneAndNoObject(t *testing.T) {
	s := sideOf(t, 0, held(5, 5, none, own(2), own(9), own(maxSerial), none), held(0, 5, none, own(3), far(2, maxSerial)), held(0, 5)).meets(9, far(2, maxSerial))
	s.h.Free(3)
	r := s.reacher(t, 3)
	walks(t, r, "", "", "", "", fmt.Sprintf("1:2.%d", uint64(maxSerial)))
	ends(t, r, fmt.Sprintf("1:2.%d", uint64(maxSerial)))
}

// With the bound below all ranks, none is no remote ID that was met.
func TestNoneIsNeverAmongTheOuts(t *testing.T) {
	s := sideOf(t, 0, held(5, 0, none, none, far(2, 1))).meets(0, none, far(2, 1))
	r := s.reacher(t, -1)
	walks(t, r, "", "", "1:2.1")
	ends(t, r, "1:2.1")
}

// Serials need not begin with 1, nor follow one another; they may be as great as
// there are.
func TestGreatSerials(t *testing.T) {
	for _, last := range []uint64{0, 1, 1 << 32, maxSerial - 4} {
		a, b, c := last+1, last+3, last+4
		s := sideOf(t, last, held(5, 5, own(c), far(2, 1)), held(5, 5), held(5, 5, own(a)), held(0, 5, own(b), far(2, 2))).meets(9, far(2, 1), far(2, 2))
		s.h.Free(last + 2)
		r := s.reacher(t, 3)
		one := fmt.Sprintf("%d:2.1,2.2", a)
		two := fmt.Sprintf("%s %d:2.1,2.2", one, b)
		walks(t, r, "", "", "", "", one, one, one, one, one, two)
		ends(t, r, two)
	}
}

// A false changes nothing: whatever is asked behind it is as without it.
func TestFalseChangesNothing(t *testing.T) {
	s := several(t)
	r := s.reacher(t, 3)
	runs(t, r)
	was, rows := s.told(), drawn(r.Rows())
	for range 5 {
		if r.Step() {
			t.Fatal("14.2: behind a false, Step answered true")
		}
	}
	if s.told() != was || drawn(r.Rows()) != rows {
		t.Errorf("14.2: a false turned\n%s, %q\ninto\n%s, %q", was, rows, s.told(), drawn(r.Rows()))
	}
	s.add(t, held(1, 9, far(9, 1)))
	walks(t, r, rows, rows, rows+" 7:9.1")
	ends(t, r, rows+" 7:9.1")
}

// How many Steps there are: one for each object, one for each object of each
// row, and one for the last row.
func TestHowManySteps(t *testing.T) {
	var things []thing
	for s := range uint64(maxObjects) {
		things = append(things, held(1, 9, own(1+(s+1)%maxObjects)))
	}
	r := sideOf(t, 0, things...).reacher(t, 3)
	if n := runs(t, r); n != maxObjects+maxObjects*maxObjects+1 {
		t.Errorf("14.2: in a ring of %d there were %d Steps", maxObjects, n)
	}
	if n := len(r.Rows()); n != maxObjects {
		t.Errorf("14.4: in a ring of %d there were %d rows", maxObjects, n)
	}
}
