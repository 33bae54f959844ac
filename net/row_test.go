package net_test

import (
	"math"
	"slices"
	"testing"

	"mooring/net"
)

// outside answers numbers at which nothing of size stands.
func outside(size int) []int {
	return []int{-1, -2, -size, -size - 1, size, size + 1, 1 << 32, 1<<32 + 1, math.MaxInt, math.MaxInt - 1, math.MinInt, math.MinInt + 1}
}

// refuse holds what Peek, Take and Double answer of k, where nothing stands,
// against what is asked.
func refuse(t *testing.T, n *net.Net, k int) {
	t.Helper()
	if d, ok := n.Peek(k); ok || !isZero(d) {
		t.Errorf("4.2: Peek(%d) answered %v, %v", k, d, ok)
	}
	if d, ok := n.Take(k); ok || !isZero(d) {
		t.Errorf("4.2: Take(%d) answered %v, %v", k, d, ok)
	}
	if n.Double(k) {
		t.Errorf("4.2: Double(%d) answered true", k)
	}
}

// take takes the one of number k and holds it against text.
func take(t *testing.T, n *net.Net, k int, text string) {
	t.Helper()
	if d, ok := n.Take(k); !ok || !same(d, gram(text)) {
		t.Errorf("4.2: Take(%d) answered %v, %v, not %q", k, d, ok, text)
	}
}

// double doubles the one of number k and holds the answer against want.
func double(t *testing.T, n *net.Net, k int, want bool) {
	t.Helper()
	if got := n.Double(k); got != want {
		t.Errorf("4.2: Double(%d) of %d answered %v", k, n.Len(), got)
	}
}

func TestNothingStandsOutside(t *testing.T) {
	texts := []string{"a", "b", "c"}
	for size := 1; size <= len(texts); size++ {
		for _, most := range []int{size, size + 1, maxBag} {
			n := loaded(t, most, texts[:size]...)
			for _, k := range outside(size) {
				refuse(t, n, k)
				row(t, n, 0, texts[:size]...)
			}
		}
	}
}

func TestNothingStandsInANetWithNothingUnderWay(t *testing.T) {
	emptied := loaded(t, 2, "a", "b")
	emptied.Take(1)
	emptied.Take(0)
	for _, n := range []*net.Net{fresh(t, 1), fresh(t, maxBag), emptied} {
		for _, k := range append(outside(0), 0) {
			refuse(t, n, k)
			row(t, n, 0)
		}
		send(t, n, gram("z"), true)
		row(t, n, 0, "z")
	}
}

func TestPeekLeavesItUnderWay(t *testing.T) {
	n := loaded(t, 4, "a", "b", "c")
	for range 2 {
		for k, s := range []string{"a", "b", "c"} {
			if d, ok := n.Peek(k); !ok || !same(d, gram(s)) {
				t.Errorf("4.2: Peek(%d) answered %v, %v, not %q", k, d, ok, s)
			}
		}
	}
	row(t, n, 0, "a", "b", "c")
}

func TestTakeOfEachMovesThoseBehindUp(t *testing.T) {
	texts := []string{"a", "bb", "", "dddd", "e"}
	for k := range texts {
		n := loaded(t, len(texts), texts...)
		take(t, n, k, texts[k])
		left := slices.Delete(slices.Clone(texts), k, k+1)
		row(t, n, 0, left...)
		refuse(t, n, len(left))
		send(t, n, gram("new"), true)
		row(t, n, 0, append(left, "new")...)
	}
}

func TestTakeToTheLastOne(t *testing.T) {
	n := loaded(t, 4, "a", "b", "c", "d")
	take(t, n, 1, "b")
	take(t, n, 1, "c")
	row(t, n, 0, "a", "d")
	take(t, n, 1, "d")
	take(t, n, 0, "a")
	row(t, n, 0)
	refuse(t, n, 0)
}

func TestTakeFromTheFrontKeepsTheOrder(t *testing.T) {
	n := fresh(t, maxBag)
	for i := range maxBag {
		send(t, n, gram(string(rune('a'+i))), true)
	}
	for i := range maxBag {
		take(t, n, 0, string(rune('a'+i)))
	}
	row(t, n, 0)
}

func TestDoubleOfEachIsTheLast(t *testing.T) {
	texts := []string{"a", "bb", "", "dddd"}
	for k := range texts {
		n := loaded(t, 6, texts...)
		double(t, n, k, true)
		row(t, n, 0, append(slices.Clone(texts), texts[k])...)
		double(t, n, 4, true)
		row(t, n, 0, append(slices.Clone(texts), texts[k], texts[k])...)
	}
}

func TestDoubleKeepsTheNodes(t *testing.T) {
	n := fresh(t, 3)
	d := long(maxDatagram)
	d.From, d.To = 64, -7
	send(t, n, d, true)
	double(t, n, 0, true)
	double(t, n, 1, true)
	holds(t, n, 0, d, d, d)
}

func TestDoubleUpToTheLastPlace(t *testing.T) {
	n := loaded(t, 3, "a", "b")
	double(t, n, 1, true)
	for k := range 3 {
		double(t, n, k, false)
		row(t, n, 0, "a", "b", "b")
	}
	send(t, n, gram("c"), false)
	row(t, n, 1, "a", "b", "b")
	double(t, n, 0, false)
	row(t, n, 1, "a", "b", "b")
	take(t, n, 2, "b")
	double(t, n, 0, true)
	row(t, n, 1, "a", "b", "a")
}

func TestDoubleOfAnyNetGoesToMostAndNoFurther(t *testing.T) {
	for _, most := range []int{1, 2, maxBag - 1, maxBag} {
		n := loaded(t, most, "a")
		for size := 1; size < most; size++ {
			double(t, n, size-1, true)
		}
		for _, k := range []int{0, most - 1, most, -1} {
			double(t, n, k, false)
		}
		if n.Len() != most || n.Lost() != 0 {
			t.Errorf("4.2: of %d, Len is %d and Lost %d", most, n.Len(), n.Lost())
		}
	}
}

func TestARefusedDoubleIsNotLost(t *testing.T) {
	n := loaded(t, 1, "a")
	double(t, n, 0, false)
	double(t, n, 1, false)
	double(t, n, -1, false)
	row(t, n, 0, "a")
	send(t, n, gram("b"), false)
	double(t, n, 0, false)
	row(t, n, 1, "a")
	take(t, n, 0, "a")
	double(t, n, 0, false)
	row(t, n, 1)
}

func TestAllOfNothingIsEmpty(t *testing.T) {
	n := fresh(t, 1)
	if all := n.All(); len(all) != 0 {
		t.Errorf("4.2: All is %v", all)
	}
	send(t, n, long(maxDatagram+1), false)
	if all := n.All(); len(all) != 0 {
		t.Errorf("4.2: All is %v", all)
	}
}

func TestWhatIsRefusedChangesNothingBehindIt(t *testing.T) {
	plain, troubled := loaded(t, 3, "a", "b", "c"), loaded(t, 3, "a", "b", "c")
	trouble := func() {
		for _, k := range outside(troubled.Len()) {
			refuse(t, troubled, k)
		}
		if troubled.Len() == 3 {
			double(t, troubled, 0, false)
			send(t, troubled, gram("x"), false)
		}
		send(t, troubled, long(maxDatagram+1), false)
	}
	steps := []func(n *net.Net){
		func(n *net.Net) { take(t, n, 1, "b") },
		func(n *net.Net) { double(t, n, 0, true) },
		func(n *net.Net) { take(t, n, 0, "a") },
		func(n *net.Net) { send(t, n, gram("d"), true) },
		func(n *net.Net) { take(t, n, 2, "d") },
	}
	for _, step := range steps {
		trouble()
		step(plain)
		step(troubled)
		holds(t, troubled, troubled.Lost(), plain.All()...)
	}
}
