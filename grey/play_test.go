package grey_test

import (
	"fmt"
	"math/rand"
	"slices"
	"testing"
)

// play does steps as r picks them; it leans to Push and to Pop by turns, so
// that the stack is often full and often empty.
func (w *twin[T]) play(t *testing.T, r *rand.Rand, steps int, next func() T) {
	t.Helper()
	for step := range steps {
		lean := 4
		if step/(2*w.most)%2 == 1 {
			lean = 12
		}
		switch pick := r.Intn(20); {
		case pick == 0 && r.Intn(4) == 0:
			w.clear(t)
		case pick <= 1:
			w.rest(t)
		case pick == 2:
			spoil(w.s.All(), next())
			w.holds(t)
		case pick-3 < lean:
			w.pop(t)
		default:
			w.push(t, next())
		}
	}
}

func TestPlayedByManySeeds(t *testing.T) {
	for most := 1; most <= maxGrey; most++ {
		r := rand.New(rand.NewSource(int64(most)))
		twinOf[int](t, most).play(t, r, 12*most+40, func() int { return r.Intn(5) })
	}
}

func TestTextsAndStructsArePlayedToo(t *testing.T) {
	for _, most := range someMosts {
		r := rand.New(rand.NewSource(int64(most)))
		texts, structs := twinOf[string](t, most), twinOf[pair](t, most)
		for range 10 {
			texts.play(t, r, 4*most, func() string { return fmt.Sprint(r.Intn(9)) })
			structs.play(t, r, 4*most, func() pair { return pair{"x", [3]int{0, r.Intn(3), 1}} })
			texts.holds(t)
		}
	}
}

func TestManySideBySide(t *testing.T) {
	r := rand.New(rand.NewSource(7))
	var all []*twin[int]
	for n := range 12 {
		all = append(all, twinOf[int](t, 1+n%5))
	}
	for step := range 200 {
		all[r.Intn(len(all))].play(t, r, 5, func() int { return step })
		for _, w := range all {
			w.holds(t)
		}
	}
}

func TestTheSameAgain(t *testing.T) {
	run := func() []string {
		r := rand.New(rand.NewSource(5))
		w := twinOf[int](t, 6)
		var l []string
		for step := range 60 {
			w.play(t, r, 7, func() int { return step })
			l = append(l, fmt.Sprint(w.s.All(), w.s.Len(), w.s.Over()))
		}
		return l
	}
	first := run()
	for range 3 {
		if again := run(); len(first) == 0 || !slices.Equal(first, again) {
			t.Fatalf("R4: told the same, a stack tells %v, then %v", first, again)
		}
	}
}
