package grey_test

import (
	"slices"
	"testing"
)

// A stack that is full is not over: only a Push that finds no room makes it so.
func TestFullIsNotOver(t *testing.T) {
	for _, most := range someMosts {
		w := twinOf(t, most, upTo(1, most)...)
		for range 3 {
			if w.s.Over() {
				t.Fatalf("10.1: a stack of %d that is full is over", most)
			}
			w.pop(t)
			w.push(t, 5)
		}
		w.drains(t)
		if w.s.Over() {
			t.Fatalf("10.1: Pop of an empty stack makes it over")
		}
	}
}

// Over lasts while things go off and on again, the whole way down and up.
func TestOverLastsThroughPopAndPush(t *testing.T) {
	for _, most := range someMosts {
		w := overTwin(t, most, most)
		for range 2 {
			for range most + 1 {
				w.pop(t)
				stillOver(t, w)
			}
			for x := range most {
				w.push(t, x)
				stillOver(t, w)
			}
			w.s.All()
			w.s.Len()
			stillOver(t, w)
		}
	}
}

func stillOver(t *testing.T, w *twin[int]) {
	t.Helper()
	for range 2 {
		if !w.s.Over() {
			t.Fatalf("10.1: without Rest or Clear, with %d of %d on it, Over is false", w.s.Len(), w.most)
		}
	}
}

// Rest ends being over, with as many on the stack as may be, and nothing else.
func TestRestChangesNothingElse(t *testing.T) {
	for _, most := range someMosts {
		for size := 0; size <= most; size++ {
			w := overTwin(t, most, size)
			w.rest(t)
			if all := w.s.All(); w.s.Over() || w.s.Len() != size || !slices.Equal(all, upTo(1, size)) {
				t.Fatalf("10.1: behind Rest: Over %v, Len %d, All %v", w.s.Over(), w.s.Len(), all)
			}
			w.rest(t)
			for x := size; x < most; x++ {
				w.push(t, 100+x)
			}
			if w.s.Over() {
				t.Fatal("10.1: behind Rest, Push with room makes the stack over")
			}
			w.push(t, 99)
			if !w.s.Over() {
				t.Fatal("10.1: behind Rest, Push without room doesn't make the stack over")
			}
			w.drains(t)
		}
	}
}

func TestRestOfAStackThatIsNotOver(t *testing.T) {
	for _, most := range someMosts {
		for size := 0; size <= most; size++ {
			w := twinOf(t, most, upTo(1, size)...)
			w.rest(t)
			w.drains(t)
			w.rest(t)
		}
	}
}

// Clear leaves an empty stack that takes as many as a new one, and is over
// again at the one beyond them.
func TestClearLeavesAStackAsNew(t *testing.T) {
	for _, most := range someMosts {
		for size := 0; size <= most; size++ {
			for _, w := range []*twin[int]{twinOf(t, most, upTo(1, size)...), overTwin(t, most, size)} {
				for range 2 {
					w.clear(t)
					if w.s.Over() || w.s.Len() != 0 || len(w.s.All()) != 0 {
						t.Fatalf("10.1: behind Clear: Over %v, Len %d, All %v", w.s.Over(), w.s.Len(), w.s.All())
					}
				}
				w.pop(t)
				for x := range most {
					w.push(t, 200+x)
				}
				w.push(t, 99)
				w.drains(t)
			}
		}
	}
}

// Each Push that finds no room makes the stack over anew.
func TestOverAndAtRestByTurns(t *testing.T) {
	w := twinOf(t, 2, 1, 2)
	for turn := range 5 {
		w.push(t, 10+turn)
		w.push(t, 20+turn)
		w.rest(t)
	}
	w.push(t, 3)
	w.clear(t)
	w.rest(t)
	w.push(t, 4)
	w.push(t, 5)
	w.push(t, 6)
	w.rest(t)
	w.drains(t)
}
