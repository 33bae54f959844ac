package clock_test

import (
	"math/big"
	"math/rand"
	"slices"
	"testing"

	"mooring/clock"
)

const maxUnit = 1 << 20

// fair holds what Fair answers against what is asked.
func fair(t *testing.T, want bool, unit, drift uint64, by ...uint64) {
	t.Helper()
	if got := clock.Fair(unit, drift, by...); got != want {
		t.Errorf("3.2: Fair(%d, %d, %d) answered %v", unit, drift, by, got)
	}
}

// past holds what Past answers against what is asked.
func past(t *testing.T, want bool, at, span, now uint64) {
	t.Helper()
	if got := clock.Past(at, span, now); got != want {
		t.Errorf("3.2: Past(%d, %d, %d) answered %v", at, span, now, got)
	}
}

func TestExamplesOfSpans(t *testing.T) {
	fair(t, true, 10, 2, 8, 12)
	fair(t, false, 10, 2, 13)
	fair(t, false, 10, 10)
	past(t, false, 5, 3, 7)
	past(t, true, 5, 3, 8)
	past(t, false, 9, 0, 8)
}

func TestFairTakesAUnitUpToTheGreatest(t *testing.T) {
	for _, unit := range []uint64{1, 2, 10, maxUnit - 1, maxUnit} {
		fair(t, true, unit, 0)
		fair(t, true, unit, 0, unit)
		fair(t, true, unit, unit-1)
		fair(t, true, unit, unit-1, 1, unit, 2*unit-1)
	}
	for _, unit := range []uint64{0, maxUnit + 1, maxUnit + 2, 1 << 32, 1 << 63, most - 1, most} {
		fair(t, false, unit, 0)
		fair(t, false, unit, 0, unit)
		fair(t, false, unit, 1, unit)
		fair(t, false, unit, unit-1, unit)
	}
}

func TestFairTakesADriftBelowTheUnit(t *testing.T) {
	for _, unit := range []uint64{1, 2, 10, maxUnit - 1, maxUnit} {
		for _, drift := range []uint64{unit, unit + 1, 2 * unit, 1 << 32, 1 << 63, most - unit, most - unit + 1, most} {
			fair(t, false, unit, drift)
			fair(t, false, unit, drift, unit)
			fair(t, false, unit, drift, 0)
		}
	}
	fair(t, false, 0, 0, 0)
	fair(t, false, 0, most, 0)
}

func TestFairMeetsEachEdge(t *testing.T) {
	for _, u := range []struct{ unit, drift uint64 }{
		{1, 0}, {2, 0}, {2, 1}, {10, 0}, {10, 2}, {10, 9}, {maxUnit, 0}, {maxUnit, 1}, {maxUnit, maxUnit - 1},
	} {
		least, greatest := u.unit-u.drift, u.unit+u.drift
		fair(t, true, u.unit, u.drift, least)
		fair(t, true, u.unit, u.drift, greatest)
		fair(t, true, u.unit, u.drift, u.unit, least, greatest)
		for _, wrong := range []uint64{least - 1, greatest + 1, 0, most, 1 << 63} {
			fair(t, false, u.unit, u.drift, wrong)
			fair(t, false, u.unit, u.drift, wrong, u.unit, u.unit)
			fair(t, false, u.unit, u.drift, u.unit, wrong, u.unit)
			fair(t, false, u.unit, u.drift, u.unit, u.unit, wrong)
		}
	}
}

func TestFairTakesEachTickBetweenTheEdges(t *testing.T) {
	for b := uint64(0); b < 40; b++ {
		fair(t, b >= 13 && b <= 27, 20, 7, b)
	}
}

func TestFairTakesNoTicksInAnyForm(t *testing.T) {
	fair(t, true, 10, 2)
	fair(t, true, 10, 2, nil...)
	fair(t, true, 10, 2, []uint64{}...)
}

func TestFairLeavesTheSliceAlone(t *testing.T) {
	whole := []uint64{12, 8, 10, 13, 99, 7}
	before := slices.Clone(whole)
	fair(t, true, 10, 2, whole[:3]...)
	fair(t, false, 10, 2, whole[:4]...)
	fair(t, false, 0, 0, whole[:3]...)
	if !slices.Equal(whole, before) {
		t.Errorf("R2: what was handed in is now %d", whole)
	}
}

func TestFairKeepsNothingOfTheSlice(t *testing.T) {
	by := []uint64{8, 12}
	fair(t, true, 10, 2, by...)
	by[1] = 13
	fair(t, false, 10, 2, by...)
	fair(t, true, 10, 2, 8, 12)
	by[1] = 11
	fair(t, true, 10, 2, by...)
	fair(t, true, 10, 2)
}

func TestPastMeetsEachEdge(t *testing.T) {
	for _, at := range []uint64{1, 5, 1 << 32, 1 << 62} {
		for _, span := range []uint64{1, 3, maxSpan, 1 << 62} {
			past(t, false, at, span, 0)
			past(t, false, at, span, at-1)
			past(t, false, at, span, at)
			past(t, false, at, span, at+span-1)
			past(t, true, at, span, at+span)
			past(t, true, at, span, at+span+1)
			past(t, true, at, span, most)
		}
		past(t, false, at, 0, at-1)
		past(t, true, at, 0, at)
		past(t, true, at, 0, at+1)
	}
	past(t, true, 0, 0, 0)
	past(t, false, 0, 1, 0)
	past(t, true, 0, 1, 1)
}

func TestPastWrapsNothing(t *testing.T) {
	past(t, false, most, most, most)
	past(t, true, 0, most, most)
	past(t, false, 0, most, most-1)
	past(t, false, 1, most, most)
	past(t, false, 2, most, 1)
	past(t, false, most, 0, most-1)
	past(t, true, most, 0, most)
	past(t, false, most, 1, most)
	past(t, false, most, 1, 0)
	past(t, false, most, 1, 5)
	past(t, false, most, 2, 1)
	past(t, false, 1<<63, 1<<63, 0)
	past(t, false, 1<<63, 1<<63, most)
	past(t, true, 1<<63, 1<<63-1, most)
	past(t, true, 0, 0, most)
}

// over answers whether now is at least at, and by span or more, worked out by
// numbers that have no end.
func over(at, span, now uint64) bool {
	gone := new(big.Int).SetUint64(now)
	gone.Sub(gone, new(big.Int).SetUint64(at))
	return gone.Sign() >= 0 && gone.Cmp(new(big.Int).SetUint64(span)) >= 0
}

func TestPastOfAnyNumbers(t *testing.T) {
	r := rand.New(rand.NewSource(5))
	for range 20000 {
		at, span, now := anyNumber(r), anyNumber(r), anyNumber(r)
		past(t, over(at, span, now), at, span, now)
		past(t, over(at, span, at+span), at, span, at+span)
		past(t, over(at, span, at+span-1), at, span, at+span-1)
	}
}

func TestWhatIsPastStaysSo(t *testing.T) {
	r := rand.New(rand.NewSource(7))
	for range 5000 {
		at, span := anyNumber(r), anyNumber(r)
		nows := []uint64{0, at - 1, at, at + 1, at + span - 1, at + span, at + span + 1, anyNumber(r), anyNumber(r), most}
		slices.Sort(nows)
		was := false
		for _, now := range nows {
			is := clock.Past(at, span, now)
			if was && !is {
				t.Fatalf("3.3: Past(%d, %d) is no more so at %d", at, span, now)
			}
			was = is
		}
	}
}
