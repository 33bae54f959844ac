package mail_test

import (
	"math"
	"slices"
	"testing"

	"mooring/api"
	"mooring/mail"
)

// The chapter's number a second time, so that a wrong one is met.
const maxInbox = 16

// fresh answers an empty box of at most most.
func fresh[T any](t *testing.T, most int) *mail.Box[T] {
	t.Helper()
	b, e := mail.New[T](most)
	if b == nil || e != api.OK {
		t.Fatalf("5.1: New(%d) answered %v, %d", most, b, e)
	}
	return b
}

// loaded answers a box of at most most with all of xs in it.
func loaded[T any](t *testing.T, most int, xs ...T) *mail.Box[T] {
	t.Helper()
	b := fresh[T](t, most)
	for _, x := range xs {
		put(t, b, x, true)
	}
	return b
}

// put puts x, and holds the answer, Len and Room against what is asked.
func put[T any](t *testing.T, b *mail.Box[T], x T, want bool) {
	t.Helper()
	size, room := b.Len(), b.Room()
	if want {
		size, room = size+1, room-1
	}
	if got := b.Put(x); got != want {
		t.Fatalf("5.1: Put(%v) answered %v", x, got)
	}
	if b.Len() != size || b.Room() != room {
		t.Fatalf("5.1: behind Put(%v), %v: Len %d, not %d; Room %d, not %d", x, want, b.Len(), size, b.Room(), room)
	}
}

// take takes one, and holds it, Len and Room against what is asked.
func take[T comparable](t *testing.T, b *mail.Box[T], want T) {
	t.Helper()
	size, room := b.Len(), b.Room()
	if x, ok := b.Take(); x != want || !ok {
		t.Fatalf("5.1: Take answered %v, %v, not %v, true", x, ok, want)
	}
	if b.Len() != size-1 || b.Room() != room+1 {
		t.Fatalf("5.1: behind Take of %v: Len %d, not %d; Room %d, not %d", want, b.Len(), size-1, b.Room(), room+1)
	}
}

// takeNone takes one out of a box that is empty.
func takeNone[T comparable](t *testing.T, b *mail.Box[T]) {
	t.Helper()
	size, room := b.Len(), b.Room()
	var zero T
	if x, ok := b.Take(); x != zero || ok {
		t.Fatalf("5.1: Take of none answered %v, %v", x, ok)
	}
	if b.Len() != size || b.Room() != room {
		t.Fatalf("5.1: behind Take of none: Len %d, not %d; Room %d, not %d", b.Len(), size, b.Room(), room)
	}
}

// holds holds all that b can tell without a change against what is asked.
func holds[T comparable](t *testing.T, b *mail.Box[T], most int, want ...T) {
	t.Helper()
	if b.Len() != len(want) {
		t.Errorf("5.1: Len is %d, not %d", b.Len(), len(want))
	}
	if b.Room() != most-len(want) {
		t.Errorf("5.1: Room is %d, not %d", b.Room(), most-len(want))
	}
	if all := b.All(); !slices.Equal(all, want) {
		t.Errorf("5.1: All is %v, not %v", all, want)
	}
}

// drained takes all that is in b, one by one.
func drained[T comparable](t *testing.T, b *mail.Box[T], want ...T) {
	t.Helper()
	for _, x := range want {
		take(t, b, x)
	}
	takeNone(t, b)
}

// upTo answers first to last, in order.
func upTo(first, last int) []int {
	var l []int
	for x := first; x <= last; x++ {
		l = append(l, x)
	}
	return l
}

func TestExamples(t *testing.T) {
	if b, e := mail.New[int](0); b != nil || e != api.ErrArg {
		t.Errorf("5.1: New(0) answered %v, %d", b, e)
	}
	b := fresh[int](t, 2)
	takeNone(t, b)
	put(t, b, 5, true)
	put(t, b, 6, true)
	put(t, b, 7, false)
	holds(t, b, 2, 5, 6)
	take(t, b, 5)
	take(t, b, 6)
	takeNone(t, b)
}

func TestNewTakesOneToMaxInbox(t *testing.T) {
	for most := 1; most <= maxInbox; most++ {
		holds(t, fresh[int](t, most), most)
	}
}

func TestNewRefuses(t *testing.T) {
	wrong := []int{0, -1, -2, -maxInbox, maxInbox + 1, maxInbox + 2, 2 * maxInbox, 256, 1 << 32, 1<<32 + 1, math.MinInt, math.MinInt + 1, math.MaxInt, math.MaxInt - 1}
	for _, most := range wrong {
		if b, e := mail.New[int](most); b != nil || e != api.ErrArg {
			t.Errorf("5.1: New[int](%d) answered %v, %d", most, b, e)
		}
		if b, e := mail.New[[]string](most); b != nil || e != api.ErrArg {
			t.Errorf("5.1: New[[]string](%d) answered %v, %d", most, b, e)
		}
	}
}

func TestEveryBoxFillsAndEmpties(t *testing.T) {
	for most := 1; most <= maxInbox; most++ {
		b := fresh[int](t, most)
		for x := 1; x <= most; x++ {
			put(t, b, x, true)
			holds(t, b, most, upTo(1, x)...)
		}
		put(t, b, 99, false)
		holds(t, b, most, upTo(1, most)...)
		for x := 1; x <= most; x++ {
			take(t, b, x)
			holds(t, b, most, upTo(x+1, most)...)
		}
		takeNone(t, b)
		holds(t, b, most)
	}
}

func TestPutIntoTheLastPlace(t *testing.T) {
	for _, most := range []int{1, 2, 3, maxInbox} {
		b := loaded(t, most, upTo(1, most-1)...)
		if b.Room() != 1 {
			t.Fatalf("5.1: of %d places, %d are left, not 1", most, b.Room())
		}
		put(t, b, most, true)
		put(t, b, 99, false)
		drained(t, b, upTo(1, most)...)
	}
}

func TestAPlaceIsFreeAgainBehindTake(t *testing.T) {
	b := loaded(t, 2, 1, 2)
	put(t, b, 3, false)
	take(t, b, 1)
	put(t, b, 4, true)
	put(t, b, 5, false)
	drained(t, b, 2, 4)
}

func TestTakeOfOneAndOfFull(t *testing.T) {
	b := loaded(t, 3, 7)
	take(t, b, 7)
	takeNone(t, b)
	for x := 1; x <= 3; x++ {
		put(t, b, x, true)
	}
	take(t, b, 1)
	holds(t, b, 3, 2, 3)
}

func TestPutThatIsRefusedChangesNothing(t *testing.T) {
	for _, most := range []int{1, 2, maxInbox} {
		b := loaded(t, most, upTo(1, most)...)
		for x := range 3 * maxInbox {
			put(t, b, 100+x, false)
			holds(t, b, most, upTo(1, most)...)
		}
		drained(t, b, upTo(1, most)...)
		put(t, b, 50, true)
		holds(t, b, most, 50)
	}
}

func TestTakeOfNoneChangesNothing(t *testing.T) {
	for _, most := range []int{1, 2, maxInbox} {
		b := fresh[int](t, most)
		for range 3 * maxInbox {
			takeNone(t, b)
			holds(t, b, most)
		}
		for x := 1; x <= most; x++ {
			put(t, b, x, true)
		}
		put(t, b, 99, false)
		drained(t, b, upTo(1, most)...)
		takeNone(t, b)
		holds(t, b, most)
	}
}

func TestAZeroThatWasPutIsNotNone(t *testing.T) {
	b := loaded(t, 3, 0, 0)
	holds(t, b, 3, 0, 0)
	take(t, b, 0)
	take(t, b, 0)
	takeNone(t, b)
}
