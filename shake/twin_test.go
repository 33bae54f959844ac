package shake_test

import (
	"fmt"
	"math"
	"testing"

	"mooring/api"
	"mooring/shake"
)

// The document's numbers a second time, so that a wrong one is met.
const (
	maxMutators = 4

	idle = 0
	arm  = 1
	scan = 2
	run  = 3

	nothing = 0
	armed   = 1
	scanned = 2
)

// fresh answers one that is Idle.
func fresh(t *testing.T, mutators int) *shake.Shake {
	t.Helper()
	s, e := shake.New(mutators)
	if s == nil || e != api.OK {
		t.Fatalf("12.1: New(%d) answered %v, %d", mutators, s, e)
	}
	return s
}

// eachCount runs f with each count of mutators that may be.
func eachCount(f func(mutators int)) {
	for mutators := 1; mutators <= maxMutators; mutators++ {
		f(mutators)
	}
}

// outside answers numbers that are no mutator's and not the port's. Some of
// them are so in their last bits.
func outside(mutators int) []int {
	return []int{
		math.MinInt, math.MinInt + 1, -1 << 32, -1<<32 + 1, -1<<8 + 1, -mutators - 1, -mutators, -2, -1,
		mutators + 1, mutators + 2, 2*mutators + 2, 1 << 8, 1<<8 + mutators, 1 << 16, 1 << 32, 1<<32 + 1, 1<<32 + mutators, math.MaxInt - 1, math.MaxInt,
	}
}

// twin is a Shake, and beside it what it should tell: who is armed, and who has
// scanned, by their numbers; how far it is hangs on how many they are.
type twin struct {
	s        *shake.Shake
	mutators int
	busy     bool // from Begin to End
	armed    map[int]bool
	scanned  map[int]bool
}

// twinOf answers a twin that is Idle.
func twinOf(t *testing.T, mutators int) *twin {
	t.Helper()
	return &twin{s: fresh(t, mutators), mutators: mutators, armed: map[int]bool{}, scanned: map[int]bool{}}
}

// port answers the port's number.
func (w *twin) port() int { return w.mutators }

// phase answers what Phase should tell.
func (w *twin) phase() int {
	switch {
	case !w.busy:
		return idle
	case len(w.armed) < w.mutators+1:
		return arm
	case len(w.scanned) < w.mutators+1:
		return scan
	}
	return run
}

// begin is a Begin, with what it must answer.
func (w *twin) begin(t *testing.T) {
	t.Helper()
	want := api.OK
	if w.phase() != idle {
		want = api.ErrState
	}
	if e := w.s.Begin(); e != want {
		t.Fatalf("12.1: in the phase %d, Begin answered %d, not %d", w.phase(), e, want)
	}
	if want == api.OK {
		w.busy = true
		w.armed[w.port()] = true
	}
}

// end is an End, with what it must answer.
func (w *twin) end(t *testing.T) {
	t.Helper()
	want := api.OK
	if w.phase() != run {
		want = api.ErrState
	}
	if e := w.s.End(); e != want {
		t.Fatalf("12.2: in the phase %d, End answered %d, not %d", w.phase(), e, want)
	}
	if want == api.OK {
		w.busy = false
		w.armed, w.scanned = map[int]bool{}, map[int]bool{}
	}
}

// answer is an Answer, with what it must answer.
func (w *twin) answer(t *testing.T, m int) {
	t.Helper()
	was, want := w.phase(), w.awaited(m)
	if got := w.s.Answer(m); got != want {
		t.Fatalf("12.2: of %d mutators, in the phase %d, Answer(%d) answered %d, not %d", w.mutators, was, m, got, want)
	}
	switch want {
	case armed:
		w.armed[m] = true
	case scanned:
		w.scanned[m] = true
	}
}

// awaited answers what an Answer of m should be.
func (w *twin) awaited(m int) int {
	mutator := m >= 0 && m < w.mutators
	switch {
	case w.phase() == arm && mutator && !w.armed[m]:
		return armed
	case w.phase() == scan && (mutator || m == w.port()) && !w.scanned[m]:
		return scanned
	}
	return nothing
}

// answers is an Answer of each of them, one behind the other.
func (w *twin) answers(t *testing.T, ms ...int) {
	t.Helper()
	for _, m := range ms {
		w.answer(t, m)
		w.holds(t)
	}
}

// is looks at the phase alone, told without the twin.
func (w *twin) is(t *testing.T, phase int) {
	t.Helper()
	if got := w.s.Phase(); got != phase {
		t.Fatalf("12: of %d mutators, the phase is %d, not %d", w.mutators, got, phase)
	}
}

// holds holds all that is told against what is asked.
func (w *twin) holds(t *testing.T) {
	t.Helper()
	if got := w.s.Phase(); got != w.phase() {
		t.Fatalf("12: of %d mutators, with %v armed and %v scanned, the phase is %d, not %d", w.mutators, w.armed, w.scanned, got, w.phase())
	}
	for m := -2; m <= maxMutators+3; m++ {
		w.tells(t, m)
	}
	for _, m := range outside(w.mutators) {
		w.tells(t, m)
	}
	w.follows(t)
}

// tells holds what is told of m against what is asked.
func (w *twin) tells(t *testing.T, m int) {
	t.Helper()
	if got := w.s.IsArmed(m); got != w.armed[m] {
		t.Fatalf("12.2: of %d mutators, in the phase %d, IsArmed(%d) is %v", w.mutators, w.phase(), m, got)
	}
	if got := w.s.HasScanned(m); got != w.scanned[m] {
		t.Fatalf("12.2: of %d mutators, in the phase %d, HasScanned(%d) is %v", w.mutators, w.phase(), m, got)
	}
}

// follows looks at what follows, without the twin's own lists.
func (w *twin) follows(t *testing.T) {
	t.Helper()
	phase := w.s.Phase()
	for m := range w.mutators + 1 {
		if phase >= scan && !w.s.IsArmed(m) {
			t.Fatalf("12.3: of %d mutators, in the phase %d, %d is not armed", w.mutators, phase, m)
		}
		if phase == run && !w.s.HasScanned(m) {
			t.Fatalf("12.3: of %d mutators, in the phase Run, %d has not scanned", w.mutators, m)
		}
		if phase == idle && w.s.IsArmed(m) || phase <= arm && w.s.HasScanned(m) {
			t.Fatalf("12.3: of %d mutators, in the phase %d, %d has answered", w.mutators, phase, m)
		}
	}
}

// finishes goes on to the end, and through one more whole round, whatever
// the phase is.
func (w *twin) finishes(t *testing.T) {
	t.Helper()
	for range 2 {
		w.begin(t)
		for range 2 {
			for m := w.mutators; m >= 0; m-- {
				w.answer(t, m)
				w.holds(t)
			}
		}
		w.is(t, run)
		w.end(t)
		w.holds(t)
		w.is(t, idle)
	}
}

// told answers all that one tells, as a text.
func told(s *shake.Shake) string {
	l := fmt.Sprint(s.Phase())
	for m := -2; m <= maxMutators+3; m++ {
		l += fmt.Sprint(" ", s.IsArmed(m), s.HasScanned(m))
	}
	return l
}

// orders answers the numbers below n in each order there is.
func orders(n int) [][]int {
	if n == 0 {
		return [][]int{nil}
	}
	var all [][]int
	for _, l := range orders(n - 1) {
		for k := range n {
			one := append([]int{}, l[:k]...)
			one = append(one, n-1)
			all = append(all, append(one, l[k:]...))
		}
	}
	return all
}
