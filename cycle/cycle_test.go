package cycle_test

import (
	"fmt"
	"math"
	"slices"
	"testing"

	"mooring/api"
	"mooring/cycle"
	"mooring/heap"
	"mooring/shake"
)

// The examples of the chapter.
func TestExamples(t *testing.T) {
	for _, things := range [][]thing{nil, {bare()}} {
		h := heapOf(t, 0, things...)
		c, e := cycle.New(h, 1, 4, 3, 8)
		if c == nil || e != api.OK || c.State() != cycle.Idle {
			t.Fatalf("16.1: New answered %v, %d", c, e)
		}
		if freed, over := c.Step(0); len(freed) != 0 || over || c.State() != cycle.Arming {
			t.Fatalf("16.2: Step answered %v, %v, and the state is %d", freed, over, c.State())
		}
		for i, one := range []struct {
			m    int
			want bool
		}{{0, true}, {0, true}, {1, true}, {1, false}} {
			if got := c.Shake(one.m, nil); got != one.want {
				t.Errorf("16.3: Shake %d, of %d, answered %v", i+1, one.m, got)
			}
		}
		if c.State() != cycle.Scanning {
			t.Errorf("16.1: the state is %d, not Scanning", c.State())
		}
		freed, over := c.Step(0)
		if !over || len(things) == 0 && len(freed) != 0 || len(things) == 1 && !slices.Equal(freed, []uint64{1}) {
			t.Errorf("16.2: with %v, Step answered %v, %v", things, freed, over)
		}
	}
}

// The states, the error and the limits are numbers that the document names.
func TestTheNumbers(t *testing.T) {
	states := []int{cycle.Idle, cycle.Arming, cycle.Scanning, cycle.Marking, cycle.Reaching, cycle.Sweeping}
	if !slices.Equal(states, []int{idle, arming, scanning, marking, reaching, sweeping}) {
		t.Errorf("16: the states are %v", states)
	}
	if api.OK != 0 || api.ErrArg != 1 || api.MaxDist != maxDist || api.MaxGrey != maxGrey || api.MaxMutators != maxMutators || api.MaxWork != maxWork || api.MaxObjects != maxObjects || api.MaxNodes != maxNodes || api.MaxSerial != maxSerial {
		t.Error("16: the error, or the limits, are other numbers")
	}
}

// newRefused is a New that must answer ErrArg.
func newRefused(t *testing.T, h *heap.Heap, s setting) {
	t.Helper()
	if c, e := cycle.New(h, s.mutators, s.grey, s.suspect, s.work); c != nil || e != api.ErrArg {
		t.Errorf("16.1: New(%v, %+v) answered %v, %d", h != nil, s, c, e)
	}
}

func TestNewRefused(t *testing.T) {
	h := heapOf(t, 0, held(3, own(1)), bare())
	was := fmt.Sprint(h.Object(1))
	newRefused(t, nil, simple)
	for _, n := range []int{math.MinInt, -1 << 32, -maxMutators, -1, 0, maxMutators + 1, maxMutators + 2, 1<<8 + 1, 1<<32 + 1, math.MaxInt} {
		newRefused(t, h, setting{n, 4, 3, 8})
	}
	for _, n := range []int{math.MinInt, -1 << 32, -maxGrey, -1, 0, maxGrey + 1, maxGrey + 2, 1<<8 + 1, 1<<32 + 1, math.MaxInt} {
		newRefused(t, h, setting{1, n, 3, 8})
	}
	for _, n := range []int{math.MinInt, -1 << 32, -maxDist, -2, -1, maxDist + 1, maxDist + 2, 1<<8 + 1, 1 << 32, math.MaxInt} {
		newRefused(t, h, setting{1, 4, n, 8})
	}
	for _, n := range []int{math.MinInt, -1 << 32, -maxWork, -1, 0, maxWork + 1, maxWork + 2, 1<<8 + 1, 1<<32 + 1, math.MaxInt} {
		newRefused(t, h, setting{1, 4, 3, n})
	}
	newRefused(t, nil, setting{0, 0, -1, 0})
	newRefused(t, h, setting{0, 0, -1, 0})
	newRefused(t, h, setting{maxMutators + 1, maxGrey + 1, maxDist + 1, maxWork + 1})
	if now := fmt.Sprint(h.Object(1)); now != was || h.Len() != 2 {
		t.Errorf("R3: a New that is refused turned %s into %s", was, now)
	}
}

// isNew looks at whether a collector tells what a new one does.
func isNew(t *testing.T, h *heap.Heap, c *cycle.Cycle) {
	t.Helper()
	if c.State() != idle || c.Turns() != 0 || len(c.Outs()) != 0 || !sameSummary(c.Summary(), cycle.Summary{}) {
		t.Fatalf("16.1: a new one tells the state %d, %d Turns, the Outs %v, the Summary %+v", c.State(), c.Turns(), c.Outs(), c.Summary())
	}
	for serial := range h.Last() + 2 {
		if rank, grey, ok := c.Mark(serial); rank != 0 || grey || ok {
			t.Fatalf("16.1: of a new one, Mark(%d) answered %d, %v, %v", serial, rank, grey, ok)
		}
	}
	for m := -1; m <= maxMutators+1; m++ {
		if c.IsArmed(m) || c.HasScanned(m) {
			t.Fatalf("16.1: of a new one, %d is armed: %v, has scanned: %v", m, c.IsArmed(m), c.HasScanned(m))
		}
	}
}

// Each number that may be, with the others as they come; New leaves the heap as
// it is.
func TestNew(t *testing.T) {
	for _, mutators := range []int{1, 2, 3, maxMutators} {
		for _, grey := range []int{1, 2, 17, maxGrey - 1, maxGrey} {
			for _, suspect := range []int{0, 1, 20, maxDist - 1, maxDist} {
				for _, work := range []int{1, 2, 33, maxWork - 1, maxWork} {
					h := heapOf(t, 0, held(3, own(1), far(2, 7)), bare())
					s := setting{mutators, grey, suspect, work}
					isNew(t, h, s.collector(t, h))
					if o, ok := h.Object(1); h.Len() != 2 || !ok || o.In != 3 || o.Refs[1] != far(2, 7) {
						t.Fatalf("16.1: New turned the heap into %d objects, of which 1 is %+v", h.Len(), o)
					}
				}
			}
		}
	}
}

// The port is the number behind the mutators'.
func TestThePort(t *testing.T) {
	for mutators := 1; mutators <= maxMutators; mutators++ {
		h := heapOf(t, 0)
		c := setting{mutators, 4, 3, 8}.collector(t, h)
		c.Step(0)
		for m := -1; m <= maxMutators+2; m++ {
			if got := c.IsArmed(m); got != (m == mutators) {
				t.Errorf("16.1: of %d mutators, behind the first Step %d is armed: %v", mutators, m, got)
			}
		}
		for m := range mutators {
			answers(t, c, m)
		}
		for m := range mutators {
			answers(t, c, m)
		}
		c.Step(0)
		if c.State() != scanning {
			t.Errorf("16.1: of %d mutators, without the port the state is %d", mutators, c.State())
		}
		answers(t, c, mutators)
		if _, over := c.Step(0); !over {
			t.Errorf("16.1: of %d mutators, with the port the state is %d", mutators, c.State())
		}
	}
}

// What a collector has no name of its own for is its shaking's.
func TestTheShakingIsPromoted(t *testing.T) {
	h := heapOf(t, 0, bare())
	c := simple.collector(t, h)
	var s interface {
		Begin() api.Errno
		Answer(m int) int
		End() api.Errno
		Phase() int
		IsArmed(m int) bool
		HasScanned(m int) bool
	} = c
	phases := []int{s.Phase()}
	c.Step(0)
	phases = append(phases, s.Phase())
	if s.Begin() != api.ErrState || s.End() != api.ErrState || s.Answer(1) != shake.Nothing {
		t.Error("16: in the phase Arm, the shaking answers otherwise")
	}
	answers(t, c, 0)
	phases = append(phases, s.Phase())
	if !s.IsArmed(0) || s.HasScanned(0) || s.Answer(0) != shake.Scanned || !s.HasScanned(0) {
		t.Error("16: in the phase Scan, the shaking answers otherwise")
	}
	answers(t, c, 1)
	for c.State() != idle {
		phases = append(phases, s.Phase())
		c.Step(0)
	}
	phases = append(phases, s.Phase())
	if want := []int{shake.Idle, shake.Arm, shake.Scan, shake.Run, shake.Run, shake.Run, shake.Run, shake.Run, shake.Run, shake.Idle}; !slices.Equal(phases, want) {
		t.Errorf("16: the phases are %v, not %v", phases, want)
	}
	if s.IsArmed(0) || s.HasScanned(1) || s.End() != api.ErrState {
		t.Error("16: at the end, the shaking answers otherwise")
	}
}

// The shaking's own calls are the collector's: a new one may be begun, answered
// and ended by them.
func TestTheShakingAlone(t *testing.T) {
	h := heapOf(t, 0, bare(), bare())
	c := simple.collector(t, h)
	is := func(want int) {
		t.Helper()
		if c.State() != want {
			t.Fatalf("16.1: in the phase %d, the state is %d, not %d", c.Phase(), c.State(), want)
		}
	}
	if c.Begin() != api.OK {
		t.Fatal("16: Begin is refused")
	}
	is(arming)
	c.Answer(0)
	is(scanning)
	c.Shake(0, []api.ID{own(2)})
	c.Answer(1)
	is(scanning)
	walks(t, h, c, "Marking: . 0")
	c.End()
	is(idle)
	begins(t, c, 1, own(2))
	if freed, _ := ends(t, c); !slices.Equal(freed, []uint64{1}) {
		t.Errorf("16.5: %v were freed", freed)
	}
}

// Turns counts the cycles that have begun.
func TestTurns(t *testing.T) {
	h := heapOf(t, 0, held(2, own(1)), bare(), bare())
	c := setting{1, 1, 3, 5}.collector(t, h)
	for n := range uint64(6) {
		if c.Turns() != n {
			t.Errorf("16.1: behind %d cycles, Turns answered %d", n, c.Turns())
		}
		begins(t, c, 1)
		if c.Turns() != n+1 {
			t.Errorf("16.1: in the cycle %d, Turns answered %d", n+1, c.Turns())
		}
		ends(t, c)
	}
}

// Mark and Outs tell what the paint does, up to the next cycle's first Step.
func TestMarkAndOuts(t *testing.T) {
	h := heapOf(t, 0, held(2, own(2), far(2, 7)), bare(far(1, 9)), bare(own(1), far(5, 5)))
	c := simple.collector(t, h)
	begins(t, c, 1)
	ends(t, c)
	for range 2 {
		shows(t, h, c, "at the end", "Idle: 2 2 x")
		if outs := c.Outs(); !slices.Equal(outs, []api.Out{{ID: far(1, 9), Rank: 2}, {ID: far(2, 7), Rank: 2}}) {
			t.Errorf("16.1: Outs answered %v", outs)
		}
	}
	for _, serial := range []uint64{0, 3, 4, maxSerial, math.MaxUint64} {
		if rank, grey, ok := c.Mark(serial); rank != 0 || grey || ok {
			t.Errorf("16.1: Mark(%d) answered %d, %v, %v", serial, rank, grey, ok)
		}
	}
	outs := c.Outs()
	outs[0].Rank = 9
	if again := c.Outs(); again[0].Rank != 2 {
		t.Error("R2: what Outs answered is kept")
	}
	c.Step(0)
	shows(t, h, c, "behind the next Step", "Arming: . . x")
	if len(c.Outs()) != 0 {
		t.Errorf("16.1: behind the next Step, Outs answered %v", c.Outs())
	}
}

// All six states, told from outside: when each begins, and how long it stays.
func TestState(t *testing.T) {
	h := heapOf(t, 0, held(1))
	c := setting{2, 4, 3, 1}.collector(t, h)
	is := func(when string, want int) {
		t.Helper()
		if got := c.State(); got != want {
			t.Fatalf("16.1: %s, the state is %d, not %d", when, got, want)
		}
	}
	for range 3 {
		is("at first", idle)
		c.Shake(0, nil)
		is("behind an answer that nobody awaits", idle)
		c.Step(0)
		is("behind a Step", arming)
		answers(t, c, 1)
		c.Step(0)
		is("with 0 not armed yet", arming)
		answers(t, c, 0)
		is("with all armed", scanning)
		c.Step(0)
		is("behind a Step with all armed", scanning)
		for _, m := range []int{2, 0, 1} {
			c.Step(0)
			is("with one who has not scanned yet", scanning)
			answers(t, c, m)
		}
		is("in the phase Run", scanning)
		c.Shake(0, nil)
		c.Touch(far(2, 2))
		is("in the phase Run, still", scanning)
		c.Step(0)
		is("behind the next Step", marking)
		reaches(t, c, reaching)
		reaches(t, c, sweeping)
		reaches(t, c, idle)
	}
}

// A collector of a heap whose serials are at their end.
func TestTheEndOfSerials(t *testing.T) {
	h := heapOf(t, maxSerial-3, held(1, own(maxSerial-1)), bare(own(maxSerial)), bare())
	c := setting{1, 1, 0, 64}.collector(t, h)
	begins(t, c, 1)
	if freed, _ := ends(t, c); len(freed) != 0 {
		t.Errorf("16.5: %v were freed", freed)
	}
	h.SetIn(maxSerial-2, 0)
	begins(t, c, 1, own(maxSerial-1))
	if freed, _ := ends(t, c); !slices.Equal(freed, []uint64{maxSerial - 2}) {
		t.Errorf("16.5: %v were freed", freed)
	}
	begins(t, c, 1)
	if freed, _ := ends(t, c); !slices.Equal(freed, []uint64{maxSerial - 1, maxSerial}) {
		t.Errorf("16.5: %v were freed", freed)
	}
}
