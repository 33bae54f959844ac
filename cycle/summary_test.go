package cycle_test

import (
	"fmt"
	"slices"
	"testing"

	"mooring/api"
	"mooring/cycle"
)

// suspects are objects of which others hold some, far away and near: 1 leads
// over 3 to {2 7} and {4 3}, 2 to {4 4}, 5 to {2 7} and to 1, 6 to {9 9}.
func suspects() []thing {
	return []thing{
		held(6, own(3), far(4, 3)), held(2, far(4, 4)), bare(far(2, 7)),
		bare(far(8, 8)), held(9, far(2, 7), own(1)), held(4, far(9, 9), far(4, 4)),
	}
}

// sums is a cycle in which the mutator 0 holds these, and answers its Summary.
func sums(t *testing.T, s setting, things []thing, held ...api.ID) cycle.Summary {
	t.Helper()
	c := s.collector(t, heapOf(t, 0, things...))
	begins(t, c, s.mutators, held...)
	ends(t, c)
	return c.Summary()
}

// Rows and Outs hang on the bound: those whose rank is above it, and no others.
func TestASummaryAboveTheBound(t *testing.T) {
	for _, one := range []struct {
		suspect int
		want    string
	}{
		{0, "{0 [{1 [{2 7} {4 3}]} {2 [{4 4}]} {5 [{2 7} {4 3}]} {6 [{4 4} {9 9}]}] [{{2 7} 6} {{4 3} 6} {{4 4} 2} {{9 9} 4}] true}"},
		{1, "{0 [{1 [{2 7} {4 3}]} {2 [{4 4}]} {5 [{2 7} {4 3}]} {6 [{4 4} {9 9}]}] [{{2 7} 6} {{4 3} 6} {{4 4} 2} {{9 9} 4}] true}"},
		{2, "{0 [{1 [{2 7} {4 3}]} {5 [{2 7} {4 3}]} {6 [{9 9}]}] [{{2 7} 6} {{4 3} 6} {{9 9} 4}] true}"},
		{3, "{0 [{1 [{2 7} {4 3}]} {5 [{2 7} {4 3}]} {6 [{9 9}]}] [{{2 7} 6} {{4 3} 6} {{9 9} 4}] true}"},
		{4, "{0 [{1 [{2 7} {4 3}]} {5 [{2 7} {4 3}]}] [{{2 7} 6} {{4 3} 6}] true}"},
		{5, "{0 [{1 [{2 7} {4 3}]} {5 [{2 7} {4 3}]}] [{{2 7} 6} {{4 3} 6}] true}"},
		{6, "{0 [{5 []}] [] true}"},
		{8, "{0 [{5 []}] [] true}"},
		{9, "{0 [] [] true}"},
		{maxDist, "{0 [] [] true}"},
	} {
		for _, work := range []int{1, 2, 7, maxWork} {
			for _, grey := range []int{1, maxGrey} {
				if got := fmt.Sprint(sums(t, setting{1, grey, one.suspect, work}, suspects())); got != one.want {
					t.Fatalf("16.2: above %d, the Summary is\n%s, not\n%s", one.suspect, got, one.want)
				}
			}
		}
	}
}

// What a mutator holds has the rank 0, and is not suspect.
func TestASummaryBesideWhatIsHeld(t *testing.T) {
	for _, one := range []struct {
		held []api.ID
		want string
	}{
		{[]api.ID{own(5)}, "{0 [{6 [{9 9}]}] [{{9 9} 4}] true}"},
		{[]api.ID{own(3), own(6)}, "{0 [{1 [{4 3}]} {5 [{4 3}]}] [{{4 3} 6}] true}"},
		{[]api.ID{far(2, 7), far(9, 9), far(7, 7)}, "{0 [{1 [{4 3}]} {5 [{4 3}]} {6 []}] [{{4 3} 6}] true}"},
		{[]api.ID{own(1), own(6)}, "{0 [{5 []}] [] true}"},
	} {
		if got := fmt.Sprint(sums(t, simple, suspects(), one.held...)); got != one.want {
			t.Errorf("16.2: with %v held, the Summary is\n%s, not\n%s", one.held, got, one.want)
		}
	}
}

// What was touched since the Outs were taken is not among them; what was touched
// ahead of that is met with the rank 0.
func TestTouchesBesideASummary(t *testing.T) {
	for state := arming; state <= sweeping; state++ {
		h := heapOf(t, 0, suspects()...)
		c := simple.collector(t, h)
		c.Step(0)
		touched := c.State() == state
		if touched {
			c.Touch(far(4, 3))
		}
		for n := 0; c.State() != idle; n++ {
			if !touched && c.State() == state {
				c.Touch(far(4, 3))
				touched = true
			}
			c.Shake(n%2, nil)
			c.Step(0)
		}
		outs := []api.Out{{ID: far(2, 7), Rank: 6}, {ID: far(9, 9), Rank: 4}}
		if state == sweeping {
			outs = slices.Insert(outs, 1, api.Out{ID: far(4, 3), Rank: 6})
		}
		if s := c.Summary(); !touched || !slices.Equal(s.Outs, outs) {
			t.Errorf("16.2: touched in the state %d, the Summary is %+v", state, s)
		}
		if all := c.Outs(); all[1] != (api.Out{ID: far(4, 3), Rank: 0}) {
			t.Errorf("16.4: touched in the state %d, the Outs are %v", state, all)
		}
	}
}

// A Summary stays from the Step in which the reacher was done to the one in
// which it is done the next time, and is another one then, though it be empty.
func TestHowLongASummaryStays(t *testing.T) {
	h := heapOf(t, 0, held(9, far(2, 7)), bare())
	c := simple.collector(t, h)
	was := cycle.Summary{}
	becomes := func(next cycle.Summary) {
		t.Helper()
		for n := 0; n == 0 || c.State() != idle; n++ {
			c.Step(next.Stir)
			c.Shake(n%2, nil)
			if c.State() == sweeping {
				was = next
			}
			if got := c.Summary(); !sameSummary(got, was) {
				t.Fatalf("16.2: in the state %d of the cycle %d, the Summary is %+v, not %+v", c.State(), c.Turns(), got, was)
			}
		}
	}
	row := api.Reach{In: 1, Outs: []api.ID{far(2, 7)}}
	becomes(cycle.Summary{Stir: 8, Rows: []api.Reach{row}, Outs: []api.Out{{ID: far(2, 7), Rank: 9}}, Ok: true})
	h.SetIn(1, 7)
	becomes(cycle.Summary{Stir: 5, Rows: []api.Reach{row}, Outs: []api.Out{{ID: far(2, 7), Rank: 7}}, Ok: true})
	h.SetRef(1, 0, none)
	becomes(cycle.Summary{Stir: 6, Rows: []api.Reach{{In: 1}}, Ok: true})
	h.SetIn(1, 3)
	becomes(cycle.Summary{Stir: 1<<64 - 1, Ok: true})
	h.SetIn(1, 0)
	becomes(cycle.Summary{Ok: true})
	becomes(cycle.Summary{Stir: 2, Ok: true})
}

// A Summary, and all of its lists, are its reader's own.
func TestASummaryIsItsReadersOwn(t *testing.T) {
	h := heapOf(t, 0, suspects()...)
	c := setting{1, maxGrey, 3, 1}.collector(t, h)
	begins(t, c, 1)
	reaches(t, c, sweeping)
	spoil := func() {
		s := c.Summary()
		for i := range s.Rows {
			for k := range s.Rows[i].Outs {
				s.Rows[i].Outs[k] = far(1, 1)
			}
			_ = append(s.Rows[i].Outs[:len(s.Rows[i].Outs):cap(s.Rows[i].Outs)], far(6, 6))
			s.Rows[i].In = 99
		}
		for i := range s.Outs {
			s.Outs[i] = api.Out{}
		}
		spoilRoom(s.Rows)
		spoilRoom(s.Outs)
	}
	want := fmt.Sprint(c.Summary())
	for c.State() != idle {
		spoil()
		if got := fmt.Sprint(c.Summary()); got != want {
			t.Fatalf("R2: behind what a reader did, the Summary is\n%s, not\n%s", got, want)
		}
		c.Step(0)
	}
	spoil()
	if got := fmt.Sprint(c.Summary()); got != want {
		t.Errorf("R2: at the end, the Summary is\n%s, not\n%s", got, want)
	}
	if outs := c.Outs(); len(outs) != 4 || outs[0] != (api.Out{ID: far(2, 7), Rank: 6}) {
		t.Errorf("R2: at the end, the Outs are %v", outs)
	}
}

// spoilRoom writes over a list's spare room.
func spoilRoom[T any](l []T) {
	var zero T
	l = l[:cap(l)]
	for i := range l {
		l[i] = zero
	}
}

// An earlier Summary is not turned by a later cycle.
func TestAnEarlierSummary(t *testing.T) {
	h := heapOf(t, 0, suspects()...)
	c := simple.collector(t, h)
	begins(t, c, 1)
	ends(t, c)
	first := c.Summary()
	was := fmt.Sprint(first)
	h.SetIn(1, 0)
	h.SetRef(2, 0, own(5))
	begins(t, c, 1, own(2))
	ends(t, c)
	if now := fmt.Sprint(first); now != was {
		t.Errorf("R2: a later cycle turned a Summary from\n%s into\n%s", was, now)
	}
	if now := fmt.Sprint(c.Summary()); now == was {
		t.Errorf("16.2: the later Summary is %s, as the first", now)
	}
}
