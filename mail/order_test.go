package mail_test

import (
	"math/rand"
	"slices"
	"testing"

	"mooring/mail"
)

func TestFilledAndEmptiedManyTimes(t *testing.T) {
	for _, most := range []int{1, 2, 3, maxInbox - 1, maxInbox} {
		b := fresh[int](t, most)
		for turn := range 200 {
			first := turn*most + 1
			for x := first; x < first+most; x++ {
				put(t, b, x, true)
			}
			put(t, b, -1, false)
			drained(t, b, upTo(first, first+most-1)...)
		}
	}
}

// The box never is empty, and its front moves on round its places.
func TestGoesRoundWhileSomeStayIn(t *testing.T) {
	for most := 2; most <= maxInbox; most++ {
		for kept := 1; kept < most; kept++ {
			b := loaded(t, most, upTo(1, kept)...)
			for x := kept + 1; x <= 5*most; x++ {
				put(t, b, x, true)
				take(t, b, x-kept)
			}
			drained(t, b, upTo(5*most-kept+1, 5*most)...)
		}
	}
}

func TestEqualOnesAreEachTakenOnce(t *testing.T) {
	b := loaded(t, 4, "a", "a", "b", "a")
	put(t, b, "a", false)
	drained(t, b, "a", "a", "b", "a")
	holds(t, b, 4)
}

// ledger is a box as it should be, and what went in and came out.
type ledger struct {
	most       int
	in         []int
	put, taken []int
}

func (l *ledger) tryPut(t *testing.T, b *mail.Box[int], x int) {
	fits := len(l.in) < l.most
	put(t, b, x, fits)
	if fits {
		l.in = append(l.in, x)
		l.put = append(l.put, x)
	}
}

func (l *ledger) tryTake(t *testing.T, b *mail.Box[int]) {
	if len(l.in) == 0 {
		takeNone(t, b)
		return
	}
	take(t, b, l.in[0])
	l.taken = append(l.taken, l.in[0])
	l.in = l.in[1:]
}

// play does steps on b as r picks them; it leans to Puts and to Takes by turns,
// so that the box is often full and often empty.
func (l *ledger) play(t *testing.T, b *mail.Box[int], r *rand.Rand, steps int) {
	for step := range steps {
		lean := 3
		if step/50%2 == 1 {
			lean = 7
		}
		switch pick := r.Intn(12); {
		case pick < 2:
			holds(t, b, l.most, l.in...)
		case pick-2 < lean:
			l.tryTake(t, b)
		default:
			l.tryPut(t, b, step)
		}
	}
}

func TestWhatIsTakenWasPutInThatOrderEachOnce(t *testing.T) {
	for seed := range int64(60) {
		r := rand.New(rand.NewSource(seed))
		l := &ledger{most: int(seed)%maxInbox + 1}
		b := fresh[int](t, l.most)
		l.play(t, b, r, 600)
		holds(t, b, l.most, l.in...)
		for b.Len() > 0 {
			l.tryTake(t, b)
		}
		takeNone(t, b)
		if !slices.Equal(l.taken, l.put) {
			t.Fatalf("5.2: put were %v, taken %v", l.put, l.taken)
		}
	}
}

func TestTheSameAgain(t *testing.T) {
	run := func() []int {
		r := rand.New(rand.NewSource(5))
		l := &ledger{most: 4}
		l.play(t, fresh[int](t, l.most), r, 400)
		return l.taken
	}
	if first, second := run(), run(); len(first) == 0 || !slices.Equal(first, second) {
		t.Errorf("R4: told the same, a box answered %v, then %v", first, second)
	}
}
