package net_test

import (
	"bytes"
	"testing"

	"mooring/api"
	"mooring/net"
)

// spoil writes over all of b, its spare room too.
func spoil(b []byte) {
	whole := b[:cap(b)]
	for i := range whole {
		whole[i] = '#'
	}
}

// spoilAll writes over all of a list of datagrams, its spare room too.
func spoilAll(all []api.Datagram) {
	whole := all[:cap(all)]
	for i := range whole {
		spoil(whole[i].Bytes)
		whole[i] = api.Datagram{From: -1, To: -1, Bytes: []byte("###")}
	}
}

func TestWhatWasSentIsNotKept(t *testing.T) {
	n := fresh(t, 2)
	d := gram("abc")
	send(t, n, d, true)
	send(t, n, d, true)
	d.Bytes[1] = 'x'
	row(t, n, 0, "abc", "abc")
	spoil(d.Bytes)
	row(t, n, 0, "abc", "abc")
	take(t, n, 0, "abc")
	row(t, n, 0, "abc")
}

func TestWhatIsHandedInIsNotChanged(t *testing.T) {
	whole := []byte("abcdefgh")
	before := bytes.Clone(whole)
	n := fresh(t, 3)
	d := api.Datagram{From: 1, To: 2, Bytes: whole[2:4]}
	send(t, n, d, true)
	double(t, n, 0, true)
	spoilAll(n.All())
	for k := range 2 {
		p, _ := n.Peek(k)
		spoil(p.Bytes)
	}
	send(t, n, d, true)
	send(t, n, d, false)
	for range 3 {
		p, _ := n.Take(0)
		spoil(p.Bytes)
	}
	if !bytes.Equal(whole, before) {
		t.Errorf("R2: what was handed in, with its spare room, is now %q", whole)
	}
}

func TestWhatWasRefusedIsNotKept(t *testing.T) {
	n := loaded(t, 1, "a")
	d := gram("b")
	send(t, n, d, false)
	spoil(d.Bytes)
	row(t, n, 1, "a")
	take(t, n, 0, "a")
	row(t, n, 1)
}

func TestWhatPeekAnswersIsItsOwners(t *testing.T) {
	n := loaded(t, 3, "abc", "def")
	first, _ := n.Peek(0)
	again, _ := n.Peek(0)
	other, _ := n.Peek(1)
	spoil(first.Bytes)
	if !same(again, gram("abc")) || !same(other, gram("def")) {
		t.Errorf("R2: other answers are now %v, %v", again, other)
	}
	row(t, n, 0, "abc", "def")
}

func TestWhatTakeAnswersIsItsOwners(t *testing.T) {
	n := loaded(t, 3, "abc", "abc", "def")
	peeked, _ := n.Peek(0)
	all := n.All()
	taken, _ := n.Take(0)
	spoil(taken.Bytes)
	row(t, n, 0, "abc", "def")
	if !same(peeked, gram("abc")) || !same(all[0], gram("abc")) {
		t.Errorf("R2: earlier answers are now %v, %v", peeked, all[0])
	}
	second, _ := n.Take(0)
	send(t, n, gram("ghi"), true)
	send(t, n, gram("jkl"), true)
	if !same(second, gram("abc")) || string(taken.Bytes) != "###" {
		t.Errorf("R2: what was taken is now %v, %v", taken, second)
	}
	spoil(second.Bytes)
	row(t, n, 0, "def", "ghi", "jkl")
}

func TestWhatAllAnswersIsItsOwners(t *testing.T) {
	n := loaded(t, 5, "abc", "def", "ghi")
	one, two := n.All(), n.All()
	spoilAll(one)
	for k, s := range []string{"abc", "def", "ghi"} {
		if !same(two[k], gram(s)) {
			t.Errorf("R2: the other answer's %d is now %v", k, two[k])
		}
	}
	row(t, n, 0, "abc", "def", "ghi")
	_ = append(two, gram("jkl"))
	send(t, n, gram("mno"), true)
	row(t, n, 0, "abc", "def", "ghi", "mno")
}

func TestNoTwoListsOfAllShareAny(t *testing.T) {
	n := loaded(t, 4, "abc", "", "def")
	double(t, n, 0, true)
	texts := []string{"abc", "", "def", "abc"}
	for k := range texts {
		all := n.All()
		spoil(all[k].Bytes)
		for j, s := range texts {
			if j != k && !same(all[j], gram(s)) {
				t.Errorf("R2: writing into %d turned %d into %v", k, j, all[j])
			}
		}
	}
	row(t, n, 0, texts...)
}

func TestAnEarlierAnswerStaysAsItWas(t *testing.T) {
	n := loaded(t, 3, "abc", "def", "ghi")
	all := n.All()
	peeked, _ := n.Peek(1)
	n.Take(0)
	double(t, n, 1, true)
	n.Take(0)
	send(t, n, gram("zzz"), true)
	for k, s := range []string{"abc", "def", "ghi"} {
		if !same(all[k], gram(s)) {
			t.Errorf("R2: what All answered at %d is now %v", k, all[k])
		}
	}
	if !same(peeked, gram("def")) {
		t.Errorf("R2: what Peek answered is now %v", peeked)
	}
}

func TestACopyByDoubleSharesNoBytes(t *testing.T) {
	for _, k := range []int{0, 1} {
		n := loaded(t, 2, "abc")
		double(t, n, 0, true)
		peeked, _ := n.Peek(k)
		spoil(peeked.Bytes)
		row(t, n, 0, "abc", "abc")
		taken, _ := n.Take(k)
		spoil(taken.Bytes)
		row(t, n, 0, "abc")
	}
}

func TestNetsKnowNothingOfOneAnother(t *testing.T) {
	a, b := fresh(t, 2), fresh(t, 3)
	d := gram("abc")
	send(t, a, d, true)
	row(t, b, 0)
	send(t, b, d, true)
	send(t, b, gram("b"), true)
	p, _ := a.Peek(0)
	spoil(p.Bytes)
	take(t, a, 0, "abc")
	row(t, a, 0)
	row(t, b, 0, "abc", "b")
	send(t, a, long(maxDatagram+1), false)
	double(t, b, 1, true)
	send(t, b, gram("late"), false)
	send(t, b, gram("late"), false)
	send(t, a, gram("a"), true)
	row(t, a, 1, "a")
	row(t, b, 2, "abc", "b", "b")
	if n, e := net.New(-1); n != nil || e != api.ErrArg {
		t.Errorf("4.1: New(-1) answered %v, %d", n, e)
	}
	row(t, fresh(t, 1), 0)
	row(t, a, 1, "a")
	row(t, b, 2, "abc", "b", "b")
}

func TestWhatOneNetAnswersCanBeSentIntoAnother(t *testing.T) {
	a, b := loaded(t, 2, "abc"), fresh(t, 2)
	p, _ := a.Peek(0)
	send(t, b, p, true)
	send(t, a, p, true)
	spoil(p.Bytes)
	row(t, a, 0, "abc", "abc")
	row(t, b, 0, "abc")
}
