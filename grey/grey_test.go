package grey_test

import (
	"math"
	"slices"
	"testing"

	"mooring/api"
	"mooring/grey"
)

func TestTheChaptersExample(t *testing.T) {
	s := fresh[int](t, 2)
	if a, b, c := s.Push(1), s.Push(2), s.Push(3); !a || !b || c {
		t.Errorf("10.1: Push answered %v, %v, %v", a, b, c)
	}
	if !s.Over() {
		t.Error("10.1: Over is false behind a Push without room")
	}
	if x, ok := s.Pop(); x != 2 || !ok {
		t.Errorf("10.1: Pop answered %d, %v", x, ok)
	}
	if !s.Over() {
		t.Error("10.1: Over is false behind a Pop")
	}
	s.Rest()
	if s.Over() {
		t.Error("10.1: Over is true behind a Rest")
	}
}

// The errors and the limit are numbers that the document names.
func TestTheNumbers(t *testing.T) {
	if api.OK != 0 || api.ErrArg != 1 || api.MaxGrey != maxGrey {
		t.Error("10: the errors, or the limit, are other numbers")
	}
}

func TestNewTakesOneToMaxGrey(t *testing.T) {
	for most := 1; most <= maxGrey; most++ {
		s := fresh[int](t, most)
		if s.Len() != 0 || s.Over() || len(s.All()) != 0 {
			t.Errorf("10.1: New(%d) has %v on it, Len %d, Over %v", most, s.All(), s.Len(), s.Over())
		}
		if x, ok := s.Pop(); x != 0 || ok {
			t.Errorf("10.1: of New(%d), Pop answered %d, %v", most, x, ok)
		}
	}
}

func TestNewRefuses(t *testing.T) {
	wrong := []int{
		0, -1, -2, -maxGrey, maxGrey + 1, maxGrey + 2, 2 * maxGrey, 256, 257, 1 << 16, 1<<16 + 1, 1 << 32, 1<<32 + 1,
		-1 << 32, -1<<32 + 1, math.MinInt32, math.MaxInt32, math.MinInt, math.MinInt + 1, math.MaxInt - 1, math.MaxInt,
	}
	for _, most := range wrong {
		if s, e := grey.New[int](most); s != nil || e != api.ErrArg {
			t.Errorf("10.1: New[int](%d) answered %v, %d", most, s, e)
		}
		if s, e := grey.New[[]string](most); s != nil || e != api.ErrArg {
			t.Errorf("10.1: New[[]string](%d) answered %v, %d", most, s, e)
		}
	}
}

// Each stack takes as many as it was made for: what is pushed beyond is not on
// it, and what was pushed comes off again, the last one first.
func TestEveryStackFillsAndEmpties(t *testing.T) {
	for most := 1; most <= maxGrey; most++ {
		w := twinOf(t, most, upTo(1, most)...)
		if w.s.Over() || w.s.Len() != most {
			t.Fatalf("10.1: New(%d), when it is full, has Len %d, Over %v", most, w.s.Len(), w.s.Over())
		}
		w.push(t, 99)
		if !w.s.Over() || w.s.Len() != most {
			t.Fatalf("10.1: New(%d), behind one too many, has Len %d, Over %v", most, w.s.Len(), w.s.Over())
		}
		for want := most; want >= 1; want-- {
			if x, ok := w.s.Pop(); x != want || !ok {
				t.Fatalf("10.1: Pop answered %d, %v, not %d", x, ok, want)
			}
		}
		if x, ok := w.s.Pop(); x != 0 || ok {
			t.Fatalf("10.1: Pop of an empty stack answered %d, %v", x, ok)
		}
	}
}

func TestPushOntoAnEmptyStack(t *testing.T) {
	for _, most := range someMosts {
		w := twinOf[int](t, most)
		w.push(t, 7)
		if all := w.s.All(); !slices.Equal(all, []int{7}) || w.s.Len() != 1 || w.s.Over() {
			t.Errorf("10.1: of New(%d), behind one Push: All %v, Len %d, Over %v", most, all, w.s.Len(), w.s.Over())
		}
		w.drains(t)
	}
}

func TestPushIntoTheLastPlace(t *testing.T) {
	for _, most := range someMosts {
		w := twinOf(t, most, upTo(1, most-1)...)
		w.push(t, most)
		if w.s.Over() || w.s.Len() != most {
			t.Errorf("10.1: the Push into the last of %d places: Len %d, Over %v", most, w.s.Len(), w.s.Over())
		}
		w.push(t, 99)
		w.drains(t)
	}
}

// However often it is tried, nothing that is on the stack is turned.
func TestPushOntoAFullStackLeavesWhatIsOnIt(t *testing.T) {
	for _, most := range someMosts {
		w := twinOf(t, most, upTo(1, most)...)
		for x := range 3 * most {
			w.push(t, 100+x)
			if all := w.s.All(); !slices.Equal(all, upTo(1, most)) || !w.s.Over() {
				t.Fatalf("10.1: behind a Push without room: All %v, Over %v", all, w.s.Over())
			}
		}
		w.drains(t)
		w.push(t, 50)
		w.pop(t)
	}
}

// None is taken from below nothing, and as many fit on the stack as before.
func TestPopOfAnEmptyStackChangesNothing(t *testing.T) {
	for _, most := range someMosts {
		w := twinOf[int](t, most)
		for range 3 * most {
			w.pop(t)
		}
		for x := range most {
			w.push(t, x)
		}
		w.push(t, 99)
		w.drains(t)
		w.pop(t)
	}
}

func TestPopOfOneAndOfAFullStack(t *testing.T) {
	for _, most := range someMosts {
		w := twinOf(t, most, 7)
		w.pop(t)
		w.pop(t)
		for x := range most {
			w.push(t, 10+x)
		}
		w.pop(t)
		if w.s.Len() != most-1 || w.s.Over() {
			t.Errorf("10.1: Pop of a full stack of %d: Len %d, Over %v", most, w.s.Len(), w.s.Over())
		}
		w.push(t, 99)
		w.push(t, 100)
		w.drains(t)
	}
}

func TestAZeroThatWasPushedIsNotNone(t *testing.T) {
	w := twinOf(t, 3, 0, 0)
	for range 2 {
		if x, ok := w.s.Pop(); x != 0 || !ok {
			t.Errorf("10.1: Pop of a 0 answered %d, %v", x, ok)
		}
	}
	if x, ok := w.s.Pop(); x != 0 || ok {
		t.Errorf("10.1: Pop of an empty stack answered %d, %v", x, ok)
	}
}

func TestEqualOnesAreEachPoppedOnce(t *testing.T) {
	w := twinOf(t, 4, "a", "a", "b", "a")
	w.push(t, "a")
	w.drains(t)
}

// The top goes up and down while some stay below it.
func TestWhatIsBelowStays(t *testing.T) {
	for _, most := range []int{2, 3, 8, maxGrey} {
		for kept := 1; kept < most; kept++ {
			w := twinOf(t, most, upTo(1, kept)...)
			for turn := range 4 {
				for x := kept; x < most; x++ {
					w.push(t, 100*turn+x)
				}
				for range most - kept {
					w.pop(t)
				}
			}
			if all := w.s.All(); !slices.Equal(all, upTo(1, kept)) {
				t.Fatalf("10.1: what lay lowest was %v, and is %v", upTo(1, kept), all)
			}
		}
	}
}
