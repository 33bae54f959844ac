package mail_test

import (
	"slices"
	"testing"

	"mooring/mail"
)

// spoil writes x over all of l, its spare room too.
func spoil[T any](l []T, x T) {
	whole := l[:cap(l)]
	for i := range whole {
		whole[i] = x
	}
}

func TestAllChangesNothing(t *testing.T) {
	const most = 5
	for size := 0; size <= most; size++ {
		for asked := range 2*most + 2 {
			b := loaded(t, most, upTo(1, size)...)
			for range asked {
				holds(t, b, most, upTo(1, size)...)
			}
			drained(t, b, upTo(1, size)...)
			holds(t, b, most)
		}
	}
}

// One box is asked for All at every turn, the other never is: both go on alike.
func TestAllBetweenPutsAndTakes(t *testing.T) {
	for _, most := range []int{1, 2, 3, 7, maxInbox} {
		asked, plain := fresh[int](t, most), fresh[int](t, most)
		for step := range 40 * most {
			for range step % 4 {
				asked.All()
			}
			if step/most%2 == 0 || step%3 == 0 {
				put(t, asked, step, plain.Put(step))
			} else {
				alike(t, asked, plain)
			}
		}
		for plain.Len() > 0 {
			asked.All()
			alike(t, asked, plain)
		}
		takeNone(t, asked)
	}
}

// alike takes one out of both boxes.
func alike(t *testing.T, asked, plain *mail.Box[int]) {
	t.Helper()
	x, ok := plain.Take()
	if !ok {
		takeNone(t, asked)
		return
	}
	take(t, asked, x)
}

func TestAllOfAnEmptyBox(t *testing.T) {
	b := fresh[string](t, 3)
	for range 3 {
		if all := b.All(); len(all) != 0 {
			t.Errorf("5.1: All of none is %q", all)
		}
	}
	put(t, b, "a", true)
	take(t, b, "a")
	if all := b.All(); len(all) != 0 {
		t.Errorf("5.1: All of a box that was emptied is %q", all)
	}
	holds(t, b, 3)
}

func TestWhatAllAnswersIsItsOwners(t *testing.T) {
	for size := 0; size <= 4; size++ {
		b := loaded(t, 4, upTo(1, size)...)
		spoil(b.All(), -1)
		holds(t, b, 4, upTo(1, size)...)
		grown := append(b.All(), -2)
		spoil(grown, -3)
		holds(t, b, 4, upTo(1, size)...)
		drained(t, b, upTo(1, size)...)
	}
}

func TestTwoAnswersOfAllShareNothing(t *testing.T) {
	for size := 0; size <= 3; size++ {
		b := loaded(t, 3, upTo(1, size)...)
		first, second := b.All(), b.All()
		spoil(first, -1)
		if !slices.Equal(second, upTo(1, size)) {
			t.Errorf("R2: with another answer written over, All's is %v", second)
		}
		room := second[len(second):cap(second)]
		if slices.Contains(room, -1) {
			t.Errorf("R2: two answers of All share spare room: %v", room)
		}
	}
}

func TestWhatAllAnsweredStaysAsTheBoxGoesOn(t *testing.T) {
	b := loaded(t, 3, 1, 2, 3)
	full := b.All()
	take(t, b, 1)
	two := b.All()
	put(t, b, 4, true)
	moved := b.All()
	drained(t, b, 2, 3, 4)
	none := b.All()
	for x := 10; x < 10+4*maxInbox; x++ {
		put(t, b, x, true)
		b.All()
		take(t, b, x)
	}
	got := [][]int{full, two, moved, none}
	for k, want := range [][]int{{1, 2, 3}, {2, 3}, {2, 3, 4}, {}} {
		if !slices.Equal(got[k], want) {
			t.Errorf("R2: All answered %v, and this is now %v", want, got[k])
		}
	}
}
