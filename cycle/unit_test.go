package cycle_test

import (
	"fmt"
	"math"
	"slices"
	"testing"

	"mooring/api"
	"mooring/heap"
)

// A whole cycle, unit by unit.
func TestEachUnit(t *testing.T) {
	h := heapOf(t, 0, held(2, own(3)), bare(), bare())
	c := simple.collector(t, h)
	walks(t, h, c, "Arming: . . .", "Arming: . . .")
	answers(t, c, 0)
	walks(t, h, c, "Scanning: . . .", "Scanning: . . .")
	answers(t, c, 0)
	answers(t, c, 1)
	shows(t, h, c, "in Run", "Scanning: . . .")
	walks(t, h, c, "Marking: 2g . .", "Marking: 2 . 2g", "Marking: 2 . 2", "Marking: 2 . 2", "Marking: 2 . 2")
	walks(t, h, c, "Reaching: 2 . 2", "Reaching: 2 . 2", "Reaching: 2 . 2", "Reaching: 2 . 2", "Sweeping: 2 . 2")
	walks(t, h, c, "Sweeping: 2 . 2", "Sweeping: 2 x 2 [2]", "Sweeping: 2 x 2", "Idle: 2 x 2 !")
	walks(t, h, c, "Arming: . x .", "Arming: . x .")
}

// The same, with two units a Step, and with as many as may be.
func TestMoreUnitsAStep(t *testing.T) {
	h := heapOf(t, 0, held(2, own(3)), bare(), bare())
	c := setting{1, maxGrey, 3, 2}.collector(t, h)
	begins(t, c, 1)
	walks(t, h, c, "Marking: 2 . 2g", "Marking: 2 . 2", "Reaching: 2 . 2", "Reaching: 2 . 2", "Sweeping: 2 . 2")
	walks(t, h, c, "Sweeping: 2 x 2 [2]", "Idle: 2 x 2 !", "Arming: . x .")

	h = heapOf(t, 0, held(2, own(3)), bare(), bare())
	c = setting{1, maxGrey, 3, maxWork}.collector(t, h)
	begins(t, c, 1)
	walks(t, h, c, "Idle: 2 x 2 [2] !", "Arming: . x .")
}

// A Step from Idle ends there, and one while somebody has not answered does
// nothing, however many units are left.
func TestAStepThatWaits(t *testing.T) {
	for work := 1; work <= maxWork; work++ {
		h := heapOf(t, 0, held(2, own(1)), bare())
		c := setting{2, 4, 3, work}.collector(t, h)
		walks(t, h, c, "Arming: . .", "Arming: . .", "Arming: . .")
		answers(t, c, 1)
		walks(t, h, c, "Arming: . .", "Arming: . .")
		answers(t, c, 0)
		for _, m := range []int{2, 1, 0} {
			walks(t, h, c, "Scanning: . .", "Scanning: . .")
			answers(t, c, m)
		}
		if c.Turns() != 1 {
			t.Fatalf("16.2: while it waits, there were %d Turns", c.Turns())
		}
		if ends(t, c); h.Len() != 1 {
			t.Fatalf("16.2: with %d units a Step, %d objects stay", work, h.Len())
		}
	}
}

// A Step that waits leaves what was marked as it is.
func TestAStepThatWaitsKeepsMarks(t *testing.T) {
	h := heapOf(t, 0, bare(), bare(), bare())
	c := setting{1, 4, 3, 8}.collector(t, h)
	c.Step(0)
	c.Touch(own(2))
	walks(t, h, c, "Arming: . 0g .", "Arming: . 0g .")
	answers(t, c, 0)
	c.Touch(own(3))
	answers(t, c, 0, own(1))
	walks(t, h, c, "Scanning: 0g 0g 0g", "Scanning: 0g 0g 0g")
	answers(t, c, 1)
	walks(t, h, c, "Reaching: 0 0 0", "Idle: 0 0 0 !")
}

// The cycle's end ends its Step, with all units left but one: the next one does
// not begin in it.
func TestTheEndEndsAStep(t *testing.T) {
	for work := 1; work <= maxWork; work++ {
		h := heapOf(t, 0)
		c := setting{1, 1, 0, work}.collector(t, h)
		for n := range uint64(3) {
			begins(t, c, 1)
			_, steps := ends(t, c)
			if c.State() != idle || c.Turns() != n+1 || steps != (3+work-1)/work {
				t.Fatalf("16.2: with %d units a Step, behind %d Steps the state is %d, with %d Turns", work, steps, c.State(), c.Turns())
			}
		}
	}
}

// plain answers a heap with so many objects that nobody holds.
func plain(t *testing.T, count int) *heap.Heap {
	t.Helper()
	return heapOf(t, 0, slices.Repeat([]thing{bare()}, count)...)
}

// Of objects that nobody holds, a cycle behind its shaking has one unit each for
// the marker, the reacher and the sweeper, and one at the end of each of them;
// so many a Step as it may do.
func TestUnitsAStep(t *testing.T) {
	for _, count := range []int{0, 1, 2, 3, 10, 21, 22, 33, maxObjects} {
		for work := 1; work <= maxWork; work++ {
			h := plain(t, count)
			c := setting{1, 1, 0, work}.collector(t, h)
			begins(t, c, 1)
			units := 3*count + 3
			freed, steps := ends(t, c)
			if want := (units + work - 1) / work; steps != want || len(freed) != count || h.Len() != 0 || h.Used() != 0 {
				t.Fatalf("16.2: of %d objects, with %d units a Step, %d were freed in %d Steps, not in %d", count, work, len(freed), steps, want)
			}
		}
	}
}

// Each Step tells just what was freed in it, in order: at most as many as it may
// do units.
func TestFreedInAStep(t *testing.T) {
	for work := 1; work <= maxWork; work++ {
		h := plain(t, maxObjects)
		c := setting{1, 1, 0, work}.collector(t, h)
		begins(t, c, 1)
		next := uint64(1)
		for c.State() != idle {
			was := h.Len()
			freed, _ := c.Step(0)
			if len(freed) > work || was-h.Len() != len(freed) {
				t.Fatalf("16.2: with %d units, a Step told %v, and %d are gone", work, freed, was-h.Len())
			}
			for _, serial := range freed {
				if serial != next {
					t.Fatalf("16.2: with %d units, told was %d, not %d", work, serial, next)
				}
				next++
			}
		}
	}
}

// What Step answered is its reader's: it is not turned by the next ones.
func TestWhatStepAnsweredIsNew(t *testing.T) {
	h := plain(t, 12)
	c := setting{1, 1, 0, 4}.collector(t, h)
	begins(t, c, 1)
	var lists [][]uint64
	for c.State() != idle {
		if freed, _ := c.Step(0); len(freed) > 0 {
			_ = append(freed[:len(freed):cap(freed)], 99)
			lists = append(lists, freed)
		}
	}
	if got := fmt.Sprint(lists); got != "[[1 2] [3 4 5 6] [7 8 9 10] [11 12]]" {
		t.Errorf("R2: behind the cycle, what was told is %v", got)
	}
}

// The stir is kept as it was handed to the Step in which the marker was done,
// whatever those ahead and behind it were handed.
func TestTheStirThatIsKept(t *testing.T) {
	for work := 1; work <= 12; work++ {
		h := heapOf(t, 0, held(2, own(2)), bare(), bare())
		c := setting{1, 1, 0, work}.collector(t, h)
		begins(t, c, 1)
		stir, want := uint64(math.MaxUint64-70), uint64(0)
		for c.State() != idle {
			if c.State() <= marking {
				want = stir
			}
			if c.Step(stir); c.State() < sweeping && c.State() != idle && c.Summary().Ok {
				t.Fatalf("16.2: with %d units, in the state %d, there is a Summary", work, c.State())
			}
			stir++
		}
		if got := c.Summary(); got.Stir != want || !got.Ok {
			t.Errorf("16.2: with %d units, the Summary is %+v, not of the stir %d", work, got, want)
		}
	}
}

// While it is Reaching, what came to be grey goes first: the reacher waits for
// it, and does not meet what is suspect no more.
func TestTheMarkerGoesFirstWhileReaching(t *testing.T) {
	things := []thing{held(9, own(2)), bare(far(2, 7)), bare(own(4)), bare(own(1))}
	h := heapOf(t, 0, things...)
	c := simple.collector(t, h)
	begins(t, c, 1)
	reaches(t, c, reaching)
	shows(t, h, c, "at first", "Reaching: 9 9 . .")
	c.Touch(own(3))
	walks(t, h, c, "Reaching: 9 9 0 0g", "Reaching: 0g 9 0 0", "Reaching: 0 0g 0 0", "Reaching: 0 0 0 0")
	walks(t, h, c, "Reaching: 0 0 0 0", "Reaching: 0 0 0 0", "Reaching: 0 0 0 0", "Reaching: 0 0 0 0", "Sweeping: 0 0 0 0")
	if s := c.Summary(); len(s.Rows)+len(s.Outs) != 0 || !s.Ok {
		t.Errorf("16.2: the Summary is %+v", s)
	}

	h = heapOf(t, 0, things...)
	c = simple.collector(t, h)
	begins(t, c, 1)
	reaches(t, c, reaching)
	walks(t, h, c, "Reaching: 9 9 . .", "Reaching: 9 9 . .")
	c.Touch(own(3))
	walks(t, h, c, "Reaching: 9 9 0 0g")
	reaches(t, c, sweeping)
	shows(t, h, c, "at the sweeper", "Sweeping: 0 0 0 0")
	if s := c.Summary(); len(s.Rows) != 1 || s.Rows[0].In != 1 || len(s.Rows[0].Outs)+len(s.Outs) != 0 {
		t.Errorf("16.2: the Summary is %+v", s)
	}
}

// Behind the reacher's end what is grey is marked, too, ahead of the sweeper.
func TestGreyAtTheReachersEnd(t *testing.T) {
	h := heapOf(t, 0, bare(own(2)), bare(own(3)), bare())
	c := simple.collector(t, h)
	begins(t, c, 1)
	walks(t, h, c, "Marking: . . .", "Marking: . . .", "Marking: . . .", "Reaching: . . .")
	walks(t, h, c, "Reaching: . . .", "Reaching: . . .", "Reaching: . . .")
	c.Touch(own(1))
	walks(t, h, c, "Reaching: 0 0g .", "Reaching: 0 0 0g", "Reaching: 0 0 0", "Sweeping: 0 0 0")
	walks(t, h, c, "Sweeping: 0 0 0", "Sweeping: 0 0 0", "Sweeping: 0 0 0", "Idle: 0 0 0 !")
}

// The sweeper begins with the Summary: what is made ahead of that is met, what
// is made behind it stays.
func TestWhenTheSweeperBegins(t *testing.T) {
	for _, state := range []int{marking, reaching} {
		h := heapOf(t, 0, held(1), bare())
		c := simple.collector(t, h)
		begins(t, c, 1)
		reaches(t, c, state)
		add(t, h, bare())
		add(t, h, bare())
		if freed, _ := ends(t, c); !slices.Equal(freed, []uint64{2, 3, 4}) {
			t.Errorf("16.2: with two made in the state %d, %v were freed", state, freed)
		}
	}
	h := heapOf(t, 0, held(1), bare())
	c := simple.collector(t, h)
	begins(t, c, 1)
	reaches(t, c, sweeping)
	add(t, h, bare())
	walks(t, h, c, "Sweeping: 1 . .", "Sweeping: 1 x . [2]", "Idle: 1 x . !")
	begins(t, c, 1)
	if freed, _ := ends(t, c); !slices.Equal(freed, []uint64{3}) {
		t.Errorf("16.2: in the next cycle, %v were freed", freed)
	}
}

// The marker, the reacher and the sweeper begin anew in each cycle.
func TestManyCycles(t *testing.T) {
	for _, work := range []int{1, 3, maxWork} {
		h := heapOf(t, 0, held(7, own(2), far(2, 7)), bare())
		c := setting{1, 1, 3, work}.collector(t, h)
		for n := range uint64(5) {
			made := add(t, h, held(2, own(1)))
			gone := add(t, h, bare())
			begins(t, c, 1)
			if freed, _ := ends(t, c); !slices.Equal(freed, []uint64{gone}) {
				t.Fatalf("16.2: in the cycle %d, %v were freed", n+1, freed)
			}
			if rank, grey, ok := c.Mark(2); rank != 2 || grey || !ok || len(c.Summary().Rows) != 0 {
				t.Fatalf("16.2: in the cycle %d, 2 is marked %d, %v, %v", n+1, rank, grey, ok)
			}
			h.SetIn(made, 0)
			begins(t, c, 1)
			if freed, _ := ends(t, c); !slices.Equal(freed, []uint64{made}) {
				t.Fatalf("16.2: behind the cycle %d, %v were freed", n+1, freed)
			}
			if s := c.Summary(); len(s.Rows) != 1 || s.Rows[0].In != 1 || !slices.Equal(s.Outs, []api.Out{{ID: far(2, 7), Rank: 7}}) {
				t.Fatalf("16.2: behind the cycle %d, the Summary is %+v", n+1, s)
			}
		}
	}
}
