package shake_test

import (
	"math"
	"slices"
	"testing"

	"mooring/api"
	"mooring/shake"
)

func TestTheChaptersExamples(t *testing.T) {
	s := fresh(t, 1)
	if got := s.Answer(0); got != shake.Nothing {
		t.Errorf("12.2: Answer(0) ahead of Begin answered %d", got)
	}
	if e := s.Begin(); e != api.OK {
		t.Errorf("12.1: Begin answered %d", e)
	}
	got := []int{s.Answer(1), s.Answer(0), s.Answer(0), s.Answer(1), s.Phase()}
	want := []int{shake.Nothing, shake.Armed, shake.Scanned, shake.Scanned, shake.Run}
	if !slices.Equal(got, want) {
		t.Errorf("12.2: the Answers, and the phase, are %v, not %v", got, want)
	}
	if first, second := s.End(), s.End(); first != api.OK || second != api.ErrState {
		t.Errorf("12.2: End, End answered %d, %d", first, second)
	}
}

func TestTheNumbers(t *testing.T) {
	if api.OK != 0 || api.ErrArg != 1 || api.ErrState != 10 || api.MaxMutators != maxMutators {
		t.Error("12: the errors, or the limit, are other numbers")
	}
	if shake.Idle != idle || shake.Arm != arm || shake.Scan != scan || shake.Run != run {
		t.Errorf("12: the phases are %d, %d, %d, %d", shake.Idle, shake.Arm, shake.Scan, shake.Run)
	}
	if shake.Nothing != nothing || shake.Armed != armed || shake.Scanned != scanned {
		t.Errorf("12: the answers are %d, %d, %d", shake.Nothing, shake.Armed, shake.Scanned)
	}
}

func TestNewTakesOneToMaxMutators(t *testing.T) {
	eachCount(func(mutators int) {
		s := fresh(t, mutators)
		if s.Phase() != shake.Idle {
			t.Errorf("12.1: the phase of New(%d) is %d", mutators, s.Phase())
		}
		for m := -2; m <= maxMutators+3; m++ {
			if s.IsArmed(m) || s.HasScanned(m) {
				t.Errorf("12.1: of New(%d), IsArmed(%d) is %v, HasScanned %v", mutators, m, s.IsArmed(m), s.HasScanned(m))
			}
		}
	})
}

func TestNewRefuses(t *testing.T) {
	wrong := []int{
		0, -1, -2, -maxMutators, maxMutators + 1, maxMutators + 2, 2 * maxMutators, 64, 1 << 8, 1<<8 + 1, 1 << 16, 1<<16 + 1, 1 << 32, 1<<32 + 1,
		-1 << 32, -1<<32 + 1, math.MinInt32, math.MaxInt32, math.MinInt, math.MinInt + 1, math.MaxInt - 1, math.MaxInt,
	}
	for _, mutators := range wrong {
		if s, e := shake.New(mutators); s != nil || e != api.ErrArg {
			t.Errorf("12.1: New(%d) answered %v, %d", mutators, s, e)
		}
	}
}

// Each one has as many mutators as were asked for, and the port behind them:
// all of these must answer, and no others count.
func TestNewHasItsMutators(t *testing.T) {
	eachCount(func(mutators int) {
		s := fresh(t, mutators)
		s.Begin()
		counts := map[int]int{}
		for range 2 {
			for m := -2; m <= maxMutators+3; m++ {
				counts[s.Answer(m)]++
			}
		}
		if counts[armed] != mutators || counts[scanned] != mutators+1 || s.Phase() != shake.Run {
			t.Errorf("12.1: of New(%d), %d were armed, %d scanned, and the phase is %d", mutators, counts[armed], counts[scanned], s.Phase())
		}
	})
}

// The runs that follow are told without a twin, answer by answer.
func TestTwoMutatorsStepByStep(t *testing.T) {
	s := fresh(t, 2)
	steps := []struct{ m, want, phase int }{
		{1, nothing, idle}, {2, nothing, idle}, {0, nothing, idle},
	}
	goes(t, s, steps)
	if e := s.Begin(); e != api.OK || s.Phase() != shake.Arm {
		t.Fatalf("12.1: Begin answered %d, and the phase is %d", e, s.Phase())
	}
	goes(t, s, []struct{ m, want, phase int }{
		{2, nothing, arm}, {1, armed, arm}, {1, nothing, arm}, {3, nothing, arm}, {2, nothing, arm}, {0, armed, scan},
		{-1, nothing, scan}, {0, scanned, scan}, {0, nothing, scan}, {2, scanned, scan}, {3, nothing, scan}, {2, nothing, scan}, {1, scanned, run},
		{0, nothing, run}, {1, nothing, run}, {2, nothing, run}, {3, nothing, run}, {-1, nothing, run},
	})
	if e := s.End(); e != api.OK {
		t.Fatalf("12.2: End answered %d", e)
	}
	goes(t, s, steps)
}

// goes is one Answer behind the other, each with what it comes to.
func goes(t *testing.T, s *shake.Shake, steps []struct{ m, want, phase int }) {
	t.Helper()
	for i, step := range steps {
		if got := s.Answer(step.m); got != step.want || s.Phase() != step.phase {
			t.Fatalf("12.2: the Answer %d, of %d, is %d, and the phase %d; not %d and %d", i, step.m, got, s.Phase(), step.want, step.phase)
		}
	}
}
