package mark_test

import (
	"fmt"
	"testing"
)

// What found no room on the stack is found in a pass, from the least object on;
// each object takes a Step, grey or not.
func TestAPassScansEachObject(t *testing.T) {
	s := sideOf(t, 1, 0, held(2, 2, 3), held(0), held(0))
	m := s.marker(t)
	s.walks(t, m,
		"2g . . 1",    // 1 is the place
		"2 2g 2g 1 !", // 1 is Scanned, and 3 finds no room
		"2 2 2g 0 !",  // 2 is Scanned
		"2 2 2g 0",    // the paint Rests
		"2 2 2g 0",    // the pass is at 1
		"2 2 2g 0",    // at 2
		"2 2 2 0",     // at 3, which is grey
		"2 2 2 0",     // the pass is over: 2 is the place
		"2 2 2 0")     // 3 is
	s.ends(t, m)
}

// greyBeside answers a side whose objects are all grey; none stands on the
// stack, which is Over.
func greyBeside(t *testing.T, most int, things ...thing) side {
	t.Helper()
	s := sideOf(t, most, 0, things...)
	for serial := uint64(1); serial <= s.h.Last(); serial++ {
		s.p.Shade(own(serial), 5)
	}
	for ok := true; ok; {
		_, ok = s.p.Pop()
	}
	return s
}

// A pass goes from object to object, rising, past what is gone, one a Step.
func TestAPassRises(t *testing.T) {
	s := greyBeside(t, 1, held(0), held(0), held(0), held(0), held(0), held(0))
	s.h.Free(1)
	s.h.Free(4)
	m := s.marker(t)
	s.walks(t, m,
		"x 5g 5g x 5g 5g 0",
		"x 5 5g x 5g 5g 0", "x 5 5 x 5g 5g 0", "x 5 5 x 5 5g 0", "x 5 5 x 5 5 0",
		"x 5 5 x 5 5 0", "x 5 5 x 5 5 0", "x 5 5 x 5 5 0", "x 5 5 x 5 5 0")
	s.ends(t, m)
}

// What a pass Shades stands on the stack, and comes ahead of the pass, which
// goes on where it was behind it.
func TestTheStackComesAheadOfAPass(t *testing.T) {
	s := greyBeside(t, 1, held(0, 4), held(0), held(0), held(0, 3))
	for serial := uint64(3); serial <= 4; serial++ {
		s.p.Forget(serial)
	}
	m := s.marker(t)
	s.walks(t, m,
		"5g 5g . . 0",
		"5 5g . 5g 1", // at 1
		"5 5g 5g 5 1", // 4 is Popped
		"5 5g 5 5 0",  // 3 is Popped
		"5 5 5 5 0",   // at 2
		"5 5 5 5 0",   // at 3
		"5 5 5 5 0",   // at 4
		"5 5 5 5 0", "5 5 5 5 0", "5 5 5 5 0", "5 5 5 5 0")
	s.ends(t, m)
}

// A paint that is Over again within a pass: the pass goes on to its end, and the
// Step that finds it over Rests, for another pass from 0 on.
func TestAnotherPass(t *testing.T) {
	s := greyBeside(t, 1, held(0), held(0, 1, 3, 4), held(0), held(0))
	s.p.Forget(1)
	s.p.Forget(3)
	s.p.Forget(4)
	m := s.marker(t)
	s.walks(t, m,
		". 5g . . 0",
		". 5g . . 0",
		"5g 5 5g 5g 1 !", // at 2: 3 and 4 find no room
		"5 5 5g 5g 0 !",  // 1 is Popped
		"5 5 5 5g 0 !",   // at 3
		"5 5 5 5 0 !",    // at 4
		"5 5 5 5 0",      // the pass is over, and the paint Rests
		"5 5 5 5 0", "5 5 5 5 0", "5 5 5 5 0", "5 5 5 5 0",
		"5 5 5 5 0", "5 5 5 5 0", "5 5 5 5 0", "5 5 5 5 0")
	s.ends(t, m)
}

// What lies below where the pass is, and finds no room, is found by the next
// one.
func TestAnotherPassFindsWhatLiesBelow(t *testing.T) {
	s := greyBeside(t, 1, held(0), held(0), held(0, 1, 2))
	s.p.Forget(1)
	s.p.Forget(2)
	m := s.marker(t)
	s.walks(t, m,
		". . 5g 0", ". . 5g 0", ". . 5g 0",
		"5g 5g 5 1 !", "5 5g 5 0 !",
		"5 5g 5 0", "5 5g 5 0", "5 5 5 0", "5 5 5 0",
		"5 5 5 0", "5 5 5 0", "5 5 5 0")
	s.ends(t, m)
}

// As long as the paint is Over again, there is another pass: a row of objects in
// which each leads to two lesser ones.
func TestManyPasses(t *testing.T) {
	var things []thing
	for n := uint64(0); n < 20; n++ {
		things = append(things, held(0, max(n, 1)-1, n, max(n, 2)-2))
	}
	things[19].in = 4
	for n := range things {
		for i, x := range things[n].refs {
			if x.Serial == 0 {
				things[n].refs[i] = none
			}
		}
	}
	for most := 1; most <= 4; most++ {
		w := twinOf(t, most, 0, things...)
		w.ends(t)
		w.a.reached(t, nil)
	}
}

// A pass under way takes no place: the place goes on behind it where it was.
func TestAPassLeavesThePlace(t *testing.T) {
	s := sideOf(t, 1, 0, held(0), held(3, 1, 4), held(0), held(0), held(2))
	m := s.marker(t)
	s.walks(t, m,
		". . . . . 0", ". 3g . . . 1",
		"3g 3 . 3g . 1 !", "3 3 . 3g . 0 !",
		"3 3 . 3g . 0",
		"3 3 . 3g . 0", "3 3 . 3g . 0", "3 3 . 3g . 0", "3 3 . 3 . 0", "3 3 . 3 . 0",
		"3 3 . 3 . 0", "3 3 . 3 . 0", "3 3 . 3 2g 1", "3 3 . 3 2 0")
	s.ends(t, m)
}

// A pass that finds no object any more is over, and the same Step goes on: with
// nothing else to be done it answers false, and the pass is over for good, so
// that what is made then is met by the place alone.
func TestAPassIsOverInTheStepThatAnswersFalse(t *testing.T) {
	s := sideOf(t, 1, 0, held(0), held(0))
	m := s.marker(t)
	runs(t, m)
	s.p.Shade(own(1), 2)
	s.p.Shade(own(2), 2)
	s.walks(t, m, "2 2g 0 !", "2 2g 0", "2 2g 0", "2 2 0")
	s.ends(t, m)
	s.add(t, held(1))
	s.walks(t, m, "2 2 1g 1", "2 2 1 0")
	s.ends(t, m)
}

// What is made behind a pass's last object, ahead of the Step that would find
// it over, the pass still comes to.
func TestAPassComesToWhatIsMade(t *testing.T) {
	s := sideOf(t, 1, 0, held(0), held(0))
	m := s.marker(t)
	runs(t, m)
	s.p.Shade(own(1), 2)
	s.p.Shade(own(2), 2)
	s.walks(t, m, "2 2g 0 !", "2 2g 0", "2 2g 0", "2 2 0")
	s.add(t, held(1))
	s.walks(t, m, "2 2 . 0", "2 2 1g 1", "2 2 1 0")
	s.ends(t, m)
}

// With a stack of one, and of a few, all comes to its end, and the ranks are
// those of a stack that is large.
func TestAStackOfAFew(t *testing.T) {
	things := []thing{
		held(9, 5, 6, 7), held(0, 1, 8), held(7, 2), held(0, 10, 9, 8), held(0, 4, 3),
		held(3, 2, 4), held(0, 9), held(0, 1, 2, 3, 4, 5, 6, 7), held(1), held(0, 10), held(0, 1, 2, 3),
	}
	large := sideOf(t, maxGrey, 0, things...)
	runs(t, large.marker(t))
	for most := 1; most < 12; most++ {
		s := sideOf(t, most, 0, things...)
		m := s.marker(t)
		runs(t, m)
		s.shows(t, fmt.Sprint("with a stack of ", most), large.drawn())
		s.ends(t, m)
		s.reached(t, nil)
	}
}

// The greatest heap, each object leading to seven, each with a lesser rank than
// those ahead of it, so that all is gone through again and again.
func TestTheGreatestHeap(t *testing.T) {
	var things []thing
	for n := uint64(0); n < maxObjects; n++ {
		o := held(max(1, maxDist-int(n)))
		for k := range uint64(maxFields) {
			o.refs = append(o.refs, own(1+(n*(k+2)+k*k+1)%maxObjects))
		}
		things = append(things, o)
	}
	bound := (maxDist + 3) * (maxObjects + 1) * (maxObjects + 3)
	for _, most := range []int{1, 2, 3, 7, 32, maxGrey - 1, maxGrey} {
		s := sideOf(t, most, 0, things...)
		m := s.marker(t)
		if n := runs(t, m); n > bound {
			t.Errorf("13.2: with a stack of %d, there were %d Steps, above %d", most, n, bound)
		}
		s.reached(t, nil)
		s.ends(t, m)
	}
}
