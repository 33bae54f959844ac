package shake_test

import (
	"fmt"
	"slices"
	"testing"

	"mooring/api"
)

// doing is one call; of m, if it is an Answer.
type doing struct {
	name string
	m    int
}

// do does it, with what it must answer.
func (w *twin) do(t *testing.T, d doing) {
	t.Helper()
	switch d.name {
	case "Begin":
		w.begin(t)
	case "End":
		w.end(t)
	default:
		w.answer(t, d.m)
	}
}

// doAll answers a twin with which all of them were done.
func doAll(t *testing.T, mutators int, all []doing) *twin {
	t.Helper()
	w := twinOf(t, mutators)
	for _, d := range all {
		w.do(t, d)
	}
	return w
}

// doings are all calls, with each number that is one's, and some that are
// none's.
func doings(mutators int) []doing {
	all := []doing{{name: "Begin"}, {name: "End"}}
	for m := range mutators + 1 {
		all = append(all, doing{"Answer", m})
	}
	for _, m := range outside(mutators) {
		all = append(all, doing{"Answer", m})
	}
	return all
}

// place answers where the twin stands, as a text.
func (w *twin) place() string { return fmt.Sprint(w.phase(), w.armed, w.scanned) }

// walk answers a way to each place that can be come to. At each of them it does
// each call, and holds what is told then.
func walk(t *testing.T, mutators int) [][]doing {
	t.Helper()
	ways := [][]doing{nil}
	seen := map[string]int{doAll(t, mutators, nil).place(): 1}
	for k := 0; k < len(ways); k++ {
		for _, d := range doings(mutators) {
			way := append(slices.Clone(ways[k]), d)
			w := doAll(t, mutators, way)
			w.holds(t)
			if seen[w.place()]++; seen[w.place()] == 1 {
				ways = append(ways, way)
			}
		}
	}
	return ways
}

// There are the places Idle and Run, one of Arm for each set of mutators but
// all, and one of Scan for each set of them and the port but all.
func TestEachCallInEachPlace(t *testing.T) {
	eachCount(func(mutators int) {
		ways := walk(t, mutators)
		if want := 1<<mutators - 1 + 2<<mutators - 1 + 2; len(ways) != want {
			t.Errorf("12: of %d mutators, there are %d places, not %d", mutators, len(ways), want)
		}
	})
}

// rounds goes on from wherever it stands, and answers all that is told on the
// way.
func (w *twin) rounds(t *testing.T) string {
	t.Helper()
	var l string
	for range 3 {
		for m := range w.mutators + 1 {
			w.answer(t, m)
			l += told(w.s) + "\n"
		}
		w.end(t)
		w.begin(t)
		l += told(w.s) + "\n"
	}
	return l
}

// refused tells whether a call must be refused, or come to nothing.
func (w *twin) refused(d doing) bool {
	switch d.name {
	case "Begin":
		return w.phase() != idle
	case "End":
		return w.phase() != run
	}
	return w.awaited(d.m) == nothing
}

// What was refused is not seen in any of the calls that come behind it.
func TestARefusedCallChangesNothing(t *testing.T) {
	eachCount(func(mutators int) {
		for _, way := range walk(t, mutators) {
			without := doAll(t, mutators, way).rounds(t)
			for _, d := range doings(mutators) {
				w := doAll(t, mutators, way)
				if !w.refused(d) {
					continue
				}
				was := told(w.s)
				w.do(t, d)
				if now := told(w.s); now != was {
					t.Fatalf("R3: %v, which is refused, turned %s into %s", d, was, now)
				}
				if with := w.rounds(t); with != without {
					t.Fatalf("R3: behind %v, and %v, which is refused, it goes on with\n%s not\n%s", way, d, with, without)
				}
			}
		}
	})
}

func TestBeginInEachPlace(t *testing.T) {
	eachCount(func(mutators int) {
		for _, way := range walk(t, mutators) {
			w := doAll(t, mutators, way)
			phase := w.s.Phase()
			e := w.s.Begin()
			if phase == idle && e != api.OK || phase != idle && (e != api.ErrState || w.s.Phase() != phase) {
				t.Fatalf("12.1: of %d mutators, in the phase %d, Begin answered %d, and the phase is %d", mutators, phase, e, w.s.Phase())
			}
		}
	})
}

func TestEndInEachPlace(t *testing.T) {
	eachCount(func(mutators int) {
		for _, way := range walk(t, mutators) {
			w := doAll(t, mutators, way)
			phase := w.s.Phase()
			e := w.s.End()
			if phase == run && (e != api.OK || w.s.Phase() != idle) || phase != run && (e != api.ErrState || w.s.Phase() != phase) {
				t.Fatalf("12.2: of %d mutators, in the phase %d, End answered %d, and the phase is %d", mutators, phase, e, w.s.Phase())
			}
		}
	})
}

// Of others nothing is told and nothing counts, in each place.
func TestOthersInEachPlace(t *testing.T) {
	eachCount(func(mutators int) {
		for _, way := range walk(t, mutators) {
			w := doAll(t, mutators, way)
			was := told(w.s)
			for _, m := range outside(mutators) {
				if got := w.s.Answer(m); got != nothing || w.s.IsArmed(m) || w.s.HasScanned(m) {
					t.Fatalf("12.2: of %d mutators, Answer(%d) is %d, IsArmed %v, HasScanned %v", mutators, m, got, w.s.IsArmed(m), w.s.HasScanned(m))
				}
			}
			if now := told(w.s); now != was {
				t.Fatalf("12.2: of %d mutators, others turned %s into %s", mutators, was, now)
			}
		}
	})
}

// Seven calls, one behind the other, in every order there is, of one mutator:
// so many lead through a whole round and into the next one.
func TestEveryFewDoings(t *testing.T) {
	all := []doing{{"Begin", 0}, {"End", 0}, {"Answer", 0}, {"Answer", 1}, {"Answer", 2}}
	var goOn func(way []doing, left int)
	goOn = func(way []doing, left int) {
		if left == 0 {
			doAll(t, 1, way).holds(t)
			return
		}
		for _, d := range all {
			goOn(append(way, d), left-1)
		}
	}
	goOn(make([]doing, 0, 7), 7)
}
