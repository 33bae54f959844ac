package shake_test

import (
	"slices"
	"testing"

	"mooring/api"
)

// begun answers a twin that is in the phase Arm.
func begun(t *testing.T, mutators int) *twin {
	t.Helper()
	w := twinOf(t, mutators)
	w.begin(t)
	w.holds(t)
	return w
}

func TestBeginArmsThePortAlone(t *testing.T) {
	eachCount(func(mutators int) {
		s := fresh(t, mutators)
		if e := s.Begin(); e != api.OK {
			t.Fatalf("12.1: of New(%d), Begin answered %d", mutators, e)
		}
		if s.Phase() != arm {
			t.Errorf("12.1: of New(%d), the phase behind Begin is %d", mutators, s.Phase())
		}
		for m := -2; m <= maxMutators+3; m++ {
			if s.IsArmed(m) != (m == mutators) || s.HasScanned(m) {
				t.Errorf("12.1: of New(%d), behind Begin, IsArmed(%d) is %v, HasScanned %v", mutators, m, s.IsArmed(m), s.HasScanned(m))
			}
		}
	})
}

// Answers ahead of it don't count.
func TestAnswersAheadOfBeginAreNothing(t *testing.T) {
	eachCount(func(mutators int) {
		w := twinOf(t, mutators)
		for range 3 {
			for m := -2; m <= maxMutators+3; m++ {
				if got := w.s.Answer(m); got != nothing {
					t.Errorf("12.2: of New(%d), in Idle, Answer(%d) answered %d", mutators, m, got)
				}
				w.holds(t)
			}
		}
		w.finishes(t)
	})
}

// The last one, whoever it is, brings Scan; none ahead of it does.
func TestArmedInEachOrder(t *testing.T) {
	eachCount(func(mutators int) {
		for _, order := range orders(mutators) {
			w := begun(t, mutators)
			for k, m := range order {
				w.is(t, arm)
				if got := w.s.Answer(m); got != armed {
					t.Fatalf("12.2: in the order %v, Answer(%d) answered %d", order, m, got)
				}
				w.armed[m] = true
				w.holds(t)
				for _, other := range order {
					if got := w.s.IsArmed(other); got != slices.Contains(order[:k+1], other) {
						t.Fatalf("12.2: in the order %v, behind %d of them, IsArmed(%d) is %v", order, k+1, other, got)
					}
				}
			}
			w.is(t, scan)
			w.finishes(t)
		}
	})
}

// One that is armed is so once: however often it answers, another is awaited.
func TestArmedOnce(t *testing.T) {
	for mutators := 2; mutators <= maxMutators; mutators++ {
		for last := range mutators {
			w := begun(t, mutators)
			for range 3 {
				for m := range mutators {
					if m != last {
						w.answers(t, m, m)
					}
				}
				w.is(t, arm)
			}
			if w.s.IsArmed(last) {
				t.Errorf("12.2: of %d mutators, %d is armed, and did not answer", mutators, last)
			}
			w.answer(t, last)
			w.is(t, scan)
			w.holds(t)
		}
	}
}

// The port is armed from Begin on: it comes to nothing, and none waits for it.
func TestThePortInTheArming(t *testing.T) {
	eachCount(func(mutators int) {
		w := begun(t, mutators)
		for m := range mutators {
			for range 3 {
				if got := w.s.Answer(w.port()); got != nothing {
					t.Fatalf("12.2: of %d mutators, in Arm, Answer of the port answered %d", mutators, got)
				}
				w.holds(t)
			}
			w.is(t, arm)
			w.answer(t, m)
		}
		w.is(t, scan)
		if w.s.HasScanned(w.port()) {
			t.Errorf("12.2: of %d mutators, the port has scanned by what it answered in Arm", mutators)
		}
		w.finishes(t)
	})
}

// One answer comes to one thing: the last that is armed has not scanned by it.
func TestTheLastThatIsArmedHasNotScanned(t *testing.T) {
	eachCount(func(mutators int) {
		for last := range mutators {
			w := begun(t, mutators)
			for m := range mutators {
				w.answers(t, (last+1+m)%mutators)
			}
			w.is(t, scan)
			for m := range mutators + 1 {
				if w.s.HasScanned(m) {
					t.Fatalf("12.2: of %d mutators, %d has scanned behind the arming", mutators, m)
				}
			}
			w.answer(t, last)
			if !w.s.HasScanned(last) {
				t.Fatalf("12.2: of %d mutators, %d has not scanned", mutators, last)
			}
			w.holds(t)
		}
	})
}

func TestOthersAreNotArmed(t *testing.T) {
	eachCount(func(mutators int) {
		w := begun(t, mutators)
		for m := range mutators {
			for _, none := range outside(mutators) {
				w.answer(t, none)
			}
			w.holds(t)
			w.answer(t, m)
		}
		w.finishes(t)
	})
}
