package clock_test

import (
	"math"
	"math/big"
	"math/rand"
	"testing"

	"mooring/api"
	"mooring/clock"
)

// The chapter's numbers a second time, so that a wrong one is met.
const (
	maxClock = 1 << 62
	maxSpan  = 1<<32 - 1
	most     = math.MaxUint64
)

// at answers a clock that stands at start.
func at(t *testing.T, start uint64) *clock.Clock {
	t.Helper()
	c, e := clock.New(start)
	if c == nil || e != api.OK {
		t.Fatalf("3.1: New(%d) answered %v, %d", start, c, e)
	}
	return c
}

// tick lets c go on and holds what it answered, and where it is then, against
// what is asked.
func tick(t *testing.T, c *clock.Clock, by uint64, want api.Errno, now uint64) {
	t.Helper()
	if e := c.Tick(by); e != want {
		t.Errorf("3.1: Tick(%d) answered %d, not %d", by, e, want)
	}
	if c.Now() != now {
		t.Errorf("3.1: behind Tick(%d) the clock is at %d, not at %d", by, c.Now(), now)
	}
}

func TestExamplesOfClocks(t *testing.T) {
	if c, e := clock.New(1<<62 + 1); c != nil || e != api.ErrArg {
		t.Errorf("3.1: New(2^62 + 1) answered %v, %d", c, e)
	}
	tick(t, at(t, 5), 3, api.OK, 8)
	c := at(t, maxClock)
	tick(t, c, 1, api.ErrExhausted, maxClock)
	tick(t, c, 0, api.OK, maxClock)
	tick(t, c, 1<<32, api.ErrArg, maxClock)
}

func TestNewStandsAtStart(t *testing.T) {
	for _, start := range []uint64{0, 1, 2, 1000, maxSpan, maxSpan + 1, 1 << 61, maxClock - 1, maxClock} {
		if now := at(t, start).Now(); now != start {
			t.Errorf("3.1: New(%d) stands at %d", start, now)
		}
	}
}

func TestNewRefusesWhatIsAboveTheEnd(t *testing.T) {
	for _, start := range []uint64{maxClock + 1, maxClock + 2, 1<<63 - 1, 1 << 63, 1<<63 + 1, most - 1, most} {
		if c, e := clock.New(start); c != nil || e != api.ErrArg {
			t.Errorf("3.1: New(%d) answered %v, %d", start, c, e)
		}
	}
}

func TestNowIsTheSameWhenAskedAgain(t *testing.T) {
	c := at(t, 7)
	for range 3 {
		if c.Now() != 7 {
			t.Fatalf("3.1: asking moved the clock to %d", c.Now())
		}
	}
}

func TestTicksAddUp(t *testing.T) {
	c := at(t, 0)
	tick(t, c, 0, api.OK, 0)
	tick(t, c, 1, api.OK, 1)
	tick(t, c, 0, api.OK, 1)
	tick(t, c, 41, api.OK, 42)
	tick(t, c, maxSpan, api.OK, 42+maxSpan)
	tick(t, c, maxSpan-1, api.OK, 42+2*maxSpan-1)
}

func TestTickRefusesMoreThanASpan(t *testing.T) {
	for _, start := range []uint64{0, 9, maxClock - maxSpan - 1, maxClock - maxSpan, maxClock - 1, maxClock} {
		c := at(t, start)
		for _, by := range []uint64{maxSpan + 1, maxSpan + 2, maxClock - 1, maxClock, maxClock + 1, 1 << 63, most - maxClock, most - start, most - start + 1, most} {
			if by > maxSpan {
				tick(t, c, by, api.ErrArg, start)
			}
		}
	}
}

func TestTickComesJustToTheEnd(t *testing.T) {
	for _, left := range []uint64{0, 1, 2, 10, 1000, maxSpan - 1, maxSpan} {
		c := at(t, maxClock-left)
		tick(t, c, left, api.OK, maxClock)
		tick(t, c, 0, api.OK, maxClock)
		tick(t, c, 1, api.ErrExhausted, maxClock)
		tick(t, c, maxSpan, api.ErrExhausted, maxClock)
		tick(t, c, maxSpan+1, api.ErrArg, maxClock)
		tick(t, c, most, api.ErrArg, maxClock)
	}
}

func TestTickThatWouldPassTheEndByOne(t *testing.T) {
	for _, left := range []uint64{0, 1, 2, 10, 1000, maxSpan - 1} {
		c := at(t, maxClock-left)
		tick(t, c, left+1, api.ErrExhausted, maxClock-left)
		tick(t, c, left, api.OK, maxClock)
	}
	c := at(t, maxClock-maxSpan)
	tick(t, c, maxSpan+1, api.ErrArg, maxClock-maxSpan)
	tick(t, c, maxSpan, api.OK, maxClock)
}

func TestARefusedTickChangesNothing(t *testing.T) {
	c := at(t, maxClock-10)
	tick(t, c, 11, api.ErrExhausted, maxClock-10)
	tick(t, c, maxSpan, api.ErrExhausted, maxClock-10)
	tick(t, c, maxSpan+1, api.ErrArg, maxClock-10)
	tick(t, c, 4, api.OK, maxClock-6)
	tick(t, c, 7, api.ErrExhausted, maxClock-6)
	tick(t, c, 6, api.OK, maxClock)
}

func TestClocksKnowNothingOfOneAnother(t *testing.T) {
	a, b := at(t, 5), at(t, 5)
	tick(t, a, 3, api.OK, 8)
	if b.Now() != 5 {
		t.Errorf("R8: the other clock went to %d", b.Now())
	}
	z := at(t, maxClock)
	tick(t, z, 1, api.ErrExhausted, maxClock)
	tick(t, b, 1, api.OK, 6)
	tick(t, a, 1, api.OK, 9)
	if z.Now() != maxClock {
		t.Errorf("R8: the other clock went to %d", z.Now())
	}
	if _, e := clock.New(most); e != api.ErrArg || a.Now() != 9 || b.Now() != 6 {
		t.Errorf("R8: a New that was refused left clocks at %d and %d", a.Now(), b.Now())
	}
}

// asked answers what a Tick must, and where the clock must be then, worked
// out by numbers that have no end.
func asked(now, by uint64) (api.Errno, uint64) {
	sum := new(big.Int).SetUint64(now)
	sum.Add(sum, new(big.Int).SetUint64(by))
	switch {
	case by > maxSpan:
		return api.ErrArg, now
	case sum.Cmp(big.NewInt(maxClock)) > 0:
		return api.ErrExhausted, now
	}
	return api.OK, sum.Uint64()
}

// anyNumber answers a number of any size, mostly one near to an edge.
func anyNumber(r *rand.Rand) uint64 {
	edges := []uint64{0, maxSpan, maxClock, 1 << 63, most, 1 << 20}
	n := r.Uint64() >> r.Intn(64)
	if r.Intn(3) > 0 {
		n = edges[r.Intn(len(edges))] + uint64(r.Intn(9)) - 4
	}
	return n
}

func TestClocksNeverGoBackNorBeyondTheEnd(t *testing.T) {
	r := rand.New(rand.NewSource(3))
	starts := []uint64{0, 1, 1 << 40, maxClock - 5*maxSpan, maxClock - maxSpan, maxClock - 20, maxClock}
	for _, start := range starts {
		c := at(t, start)
		now := start
		for range 3000 {
			by := anyNumber(r)
			if r.Intn(2) == 0 {
				by = uint64(r.Intn(20))
			}
			e, next := asked(now, by)
			tick(t, c, by, e, next)
			if c.Now() < now || c.Now() > maxClock {
				t.Fatalf("3.3: Tick(%d) led from %d to %d", by, now, c.Now())
			}
			now = next
		}
	}
}
