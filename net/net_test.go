package net_test

import (
	"bytes"
	"math"
	"slices"
	"testing"

	"mooring/api"
	"mooring/net"
)

// The chapter's numbers a second time, so that a wrong one is met.
const (
	maxBag      = 256
	maxDatagram = 1024
)

// fresh answers a net of at most most with nothing under way.
func fresh(t *testing.T, most int) *net.Net {
	t.Helper()
	n, e := net.New(most)
	if n == nil || e != api.OK {
		t.Fatalf("4.1: New(%d) answered %v, %d", most, n, e)
	}
	return n
}

// gram answers a datagram whose bytes are s.
func gram(s string) api.Datagram { return api.Datagram{From: 3, To: 9, Bytes: []byte(s)} }

// long answers a datagram of size bytes, no two neighbours alike.
func long(size int) api.Datagram {
	d := api.Datagram{From: 1, To: 2, Bytes: make([]byte, size)}
	for i := range d.Bytes {
		d.Bytes[i] = byte(i%251 + 1)
	}
	return d
}

// loaded answers a net of at most most, with one datagram a text under way.
func loaded(t *testing.T, most int, texts ...string) *net.Net {
	t.Helper()
	n := fresh(t, most)
	for _, s := range texts {
		send(t, n, gram(s), true)
	}
	return n
}

// same: are both datagrams alike, nil bytes and none the same?
func same(a, b api.Datagram) bool {
	return a.From == b.From && a.To == b.To && bytes.Equal(a.Bytes, b.Bytes)
}

// send sends d, and holds the answer, Lost and Len against what is asked.
func send(t *testing.T, n *net.Net, d api.Datagram, want bool) {
	t.Helper()
	size, lost := n.Len(), n.Lost()
	if want {
		size++
	} else {
		lost++
	}
	if got := n.Send(d); got != want {
		t.Fatalf("4.1: Send of %d bytes answered %v", len(d.Bytes), got)
	}
	if n.Len() != size || n.Lost() != lost {
		t.Fatalf("4.1: behind Send of %d bytes, %v: Len %d, not %d; Lost %d, not %d", len(d.Bytes), want, n.Len(), size, n.Lost(), lost)
	}
}

// holds holds all that n can tell against what is asked.
func holds(t *testing.T, n *net.Net, lost int, want ...api.Datagram) {
	t.Helper()
	if n.Lost() != lost {
		t.Errorf("4.1: Lost is %d, not %d", n.Lost(), lost)
	}
	if n.Len() != len(want) {
		t.Errorf("4.2: Len is %d, not %d", n.Len(), len(want))
	}
	if all := n.All(); !slices.EqualFunc(all, want, same) {
		t.Errorf("4.2: All is %v, not %v", all, want)
	}
	for k, w := range want {
		if d, ok := n.Peek(k); !ok || !same(d, w) {
			t.Errorf("4.2: Peek(%d) answered %v, %v, not %v", k, d, ok, w)
		}
	}
	if d, ok := n.Peek(len(want)); ok || !isZero(d) {
		t.Errorf("4.2: Peek(%d) of %d answered %v, %v", len(want), len(want), d, ok)
	}
}

// row holds the texts under way, in order, against what is asked.
func row(t *testing.T, n *net.Net, lost int, texts ...string) {
	t.Helper()
	want := make([]api.Datagram, 0, len(texts))
	for _, s := range texts {
		want = append(want, gram(s))
	}
	holds(t, n, lost, want...)
}

func isZero(d api.Datagram) bool { return d.From == 0 && d.To == 0 && len(d.Bytes) == 0 }

func TestExamples(t *testing.T) {
	if n, e := net.New(0); n != nil || e != api.ErrArg {
		t.Errorf("4.1: New(0) answered %v, %d", n, e)
	}
	n := fresh(t, 2)
	a, b, c := n.Send(gram("a")), n.Send(gram("b")), n.Send(gram("c"))
	if !a || !b || c || n.Lost() != 1 {
		t.Errorf("4.1: Send answered %v, %v, %v; Lost is %d", a, b, c, n.Lost())
	}
	if d, ok := n.Take(0); !ok || !same(d, gram("a")) {
		t.Errorf("4.2: Take(0) answered %v, %v", d, ok)
	}
	if !n.Double(0) {
		t.Error("4.2: Double(0) answered false")
	}
	row(t, n, 1, "b", "b")
}

func TestNewBeginsWithNothingUnderWay(t *testing.T) {
	for _, most := range []int{1, 2, 100, maxBag - 1, maxBag} {
		holds(t, fresh(t, most), 0)
	}
}

func TestNewRefusesWhatIsOutOfRange(t *testing.T) {
	for _, most := range []int{0, -1, -maxBag, maxBag + 1, 2 * maxBag, 1 << 32, 1<<32 + 1, math.MaxInt, math.MinInt, math.MinInt + 1} {
		if n, e := net.New(most); n != nil || e != api.ErrArg {
			t.Errorf("4.1: New(%d) answered %v, %d", most, n, e)
		}
	}
}

func TestSendUpToTheLastPlace(t *testing.T) {
	for _, most := range []int{1, 2, 3, 17, maxBag - 1, maxBag} {
		n := fresh(t, most)
		var want []api.Datagram
		for i := range most {
			d := api.Datagram{From: i, To: -i, Bytes: []byte{byte(i), 7}}
			send(t, n, d, true)
			want = append(want, d)
		}
		for i := range 3 {
			holds(t, n, i, want...)
			send(t, n, gram("late"), false)
		}
		holds(t, n, 3, want...)
	}
}

func TestAPlaceThatIsLeftAgainIsTaken(t *testing.T) {
	n := loaded(t, 2, "a", "b")
	send(t, n, gram("c"), false)
	n.Take(0)
	send(t, n, gram("d"), true)
	row(t, n, 1, "b", "d")
	send(t, n, gram("e"), false)
	row(t, n, 2, "b", "d")
}

func TestSendOfEachSize(t *testing.T) {
	for _, size := range []int{0, 1, 2, 127, 128, maxDatagram - 1, maxDatagram} {
		n := fresh(t, 3)
		send(t, n, long(size), true)
		send(t, n, gram("x"), true)
		send(t, n, long(size), true)
		holds(t, n, 0, long(size), gram("x"), long(size))
		send(t, n, long(size), false)
		holds(t, n, 1, long(size), gram("x"), long(size))
	}
}

func TestSendOfNoBytesInEachForm(t *testing.T) {
	n := fresh(t, 3)
	for _, none := range [][]byte{nil, {}, make([]byte, 0, 8)} {
		send(t, n, api.Datagram{From: 4, To: 5, Bytes: none}, true)
	}
	want := api.Datagram{From: 4, To: 5}
	holds(t, n, 0, want, want, want)
	send(t, n, api.Datagram{}, false)
	holds(t, n, 1, want, want, want)
	for range 3 {
		if d, ok := n.Take(0); !ok || !same(d, want) {
			t.Errorf("4.2: Take(0) answered %v, %v", d, ok)
		}
	}
	holds(t, n, 1)
}

func TestSendLosesWhatIsTooLong(t *testing.T) {
	n := fresh(t, 2)
	for i, size := range []int{maxDatagram + 1, maxDatagram + 2, 2 * maxDatagram, 1 << 16} {
		send(t, n, long(size), false)
		holds(t, n, i+1)
	}
	send(t, n, gram("a"), true)
	send(t, n, long(maxDatagram+1), false)
	row(t, n, 5, "a")
	send(t, n, gram("b"), true)
	row(t, n, 5, "a", "b")
}

func TestWhatIsTooLongIsLostOnceWhereTheNetIsFull(t *testing.T) {
	n := loaded(t, 1, "a")
	send(t, n, long(maxDatagram+1), false)
	row(t, n, 1, "a")
	send(t, n, long(maxDatagram), false)
	row(t, n, 2, "a")
	send(t, n, api.Datagram{}, false)
	row(t, n, 3, "a")
}

func TestASpareRoomIsNoLength(t *testing.T) {
	n := fresh(t, 1)
	wide := long(2 * maxDatagram)
	wide.Bytes = wide.Bytes[:maxDatagram]
	send(t, n, wide, true)
	holds(t, n, 0, long(maxDatagram))
}

func TestSendLooksAtNoNode(t *testing.T) {
	n := fresh(t, 8)
	var want []api.Datagram
	for _, node := range []int{0, 1, 64, 65, -1, math.MaxInt, math.MinInt} {
		d := api.Datagram{From: node, To: ^node, Bytes: []byte{1}}
		send(t, n, d, true)
		want = append(want, d)
	}
	send(t, n, api.Datagram{From: 5, To: 5}, true)
	holds(t, n, 0, append(want, api.Datagram{From: 5, To: 5})...)
}
