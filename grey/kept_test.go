package grey

import (
	"testing"

	"mooring/api"
)

// No call tells what lies above the top, so this looks from inside: nothing
// that was popped, or cleared, is kept.
func TestNothingIsKeptThatWasTakenOff(t *testing.T) {
	s, e := New[*int](5)
	if e != api.OK {
		t.Fatalf("10.1: New(5) answered %d", e)
	}
	x := 1
	for range 6 {
		s.Push(&x)
	}
	for s.Len() > 0 {
		s.Pop()
		for k, p := range s.held[s.Len():cap(s.held)] {
			if p != nil {
				t.Fatalf("with %d on it, the stack keeps one at the place %d above the top", s.Len(), k)
			}
		}
	}
	s.Push(&x)
	s.Clear()
	for _, p := range s.held[:cap(s.held)] {
		if p != nil {
			t.Fatal("behind Clear, the stack keeps what was on it")
		}
	}
}
