package shake_test

import (
	"testing"

	"mooring/api"
)

// scanning answers a twin that is in the phase Scan.
func scanning(t *testing.T, mutators int) *twin {
	t.Helper()
	w := begun(t, mutators)
	for m := range mutators {
		w.answer(t, m)
	}
	w.is(t, scan)
	w.holds(t)
	return w
}

// running answers a twin that is in the phase Run.
func running(t *testing.T, mutators int) *twin {
	t.Helper()
	w := scanning(t, mutators)
	for m := range mutators + 1 {
		w.answer(t, m)
	}
	w.is(t, run)
	w.holds(t)
	return w
}

// The last one, whoever it is, brings Run; none ahead of it does. The port is
// one of them.
func TestScannedInEachOrder(t *testing.T) {
	eachCount(func(mutators int) {
		for _, order := range orders(mutators + 1) {
			w := scanning(t, mutators)
			for _, m := range order {
				w.is(t, scan)
				if got := w.s.Answer(m); got != scanned {
					t.Fatalf("12.2: in the order %v, Answer(%d) answered %d", order, m, got)
				}
				w.scanned[m] = true
				w.holds(t)
			}
			w.is(t, run)
			w.end(t)
			w.finishes(t)
		}
	})
}

// How they were armed is not seen when they scan.
func TestEachOrderBehindEachOrder(t *testing.T) {
	eachCount(func(mutators int) {
		for _, first := range orders(mutators) {
			for _, second := range orders(mutators + 1) {
				w := twinOf(t, mutators)
				w.begin(t)
				for _, m := range first {
					w.answer(t, m)
				}
				w.is(t, scan)
				for _, m := range second {
					w.is(t, scan)
					w.answer(t, m)
				}
				w.is(t, run)
			}
		}
	})
}

// One that has scanned has so once: however often it answers, another is
// awaited; the port too.
func TestScannedOnce(t *testing.T) {
	eachCount(func(mutators int) {
		for last := range mutators + 1 {
			w := scanning(t, mutators)
			for range 3 {
				for m := range mutators + 1 {
					if m != last {
						w.answers(t, m, m)
					}
				}
				w.is(t, scan)
			}
			if w.s.HasScanned(last) {
				t.Errorf("12.2: of %d mutators, %d has scanned, and did not answer", mutators, last)
			}
			w.answer(t, last)
			w.is(t, run)
			w.holds(t)
		}
	})
}

// Run waits for the port, though the arming did not.
func TestThePortIsCounted(t *testing.T) {
	eachCount(func(mutators int) {
		w := scanning(t, mutators)
		for m := range mutators {
			w.answers(t, m)
		}
		w.is(t, scan)
		if e := w.s.End(); e != api.ErrState {
			t.Errorf("12.2: of %d mutators, End ahead of the port answered %d", mutators, e)
		}
		if got := w.s.Answer(w.port()); got != scanned || w.s.Phase() != run || !w.s.HasScanned(mutators) {
			t.Errorf("12.2: of %d mutators, Answer of the port answered %d, and the phase is %d", mutators, got, w.s.Phase())
		}
	})
}

func TestOthersHaveNotScanned(t *testing.T) {
	eachCount(func(mutators int) {
		w := scanning(t, mutators)
		for m := range mutators + 1 {
			for _, none := range outside(mutators) {
				w.answer(t, none)
			}
			w.holds(t)
			w.answer(t, m)
		}
		w.is(t, run)
		for _, none := range outside(mutators) {
			w.answer(t, none)
		}
		w.holds(t)
	})
}

func TestAnswersInRunAreNothing(t *testing.T) {
	eachCount(func(mutators int) {
		w := running(t, mutators)
		for range 3 {
			for m := -2; m <= maxMutators+3; m++ {
				if got := w.s.Answer(m); got != nothing {
					t.Errorf("12.2: of %d mutators, in Run, Answer(%d) answered %d", mutators, m, got)
				}
				w.holds(t)
			}
		}
		w.end(t)
		w.finishes(t)
	})
}

// Behind End it is as a new one, and goes on anew, each time.
func TestEndLetsItBeIdle(t *testing.T) {
	eachCount(func(mutators int) {
		w := twinOf(t, mutators)
		for range 5 {
			w.begin(t)
			for range 2 {
				for m := range mutators + 1 {
					w.answers(t, m)
				}
			}
			w.is(t, run)
			if e := w.s.End(); e != api.OK {
				t.Fatalf("12.2: of %d mutators, in Run, End answered %d", mutators, e)
			}
			if now, then := told(w.s), told(fresh(t, mutators)); now != then {
				t.Fatalf("12.2: of %d mutators, behind End it tells %s, a new one %s", mutators, now, then)
			}
			w.busy, w.armed, w.scanned = false, map[int]bool{}, map[int]bool{}
			w.holds(t)
		}
	})
}

// An End that comes twice does not end the one that begins behind it.
func TestASecondEndIsRefused(t *testing.T) {
	eachCount(func(mutators int) {
		w := running(t, mutators)
		w.end(t)
		w.end(t)
		w.holds(t)
		w.begin(t)
		w.end(t)
		w.holds(t)
		w.is(t, arm)
	})
}
