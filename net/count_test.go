package net_test

import (
	"math/rand"
	"slices"
	"strconv"
	"testing"

	"mooring/api"
	"mooring/net"
)

// ledger is a net as it should be, and what became of all that was sent.
type ledger struct {
	most                       int
	row                        []api.Datagram
	sent, taken, lost, doubled int
	known                      map[string]int // of each that was let in, how often it may still be taken
}

// anyGram answers a datagram that no other equals: most are short, some are at
// the edge or past it.
func anyGram(r *rand.Rand, serial int) api.Datagram {
	sizes := []int{maxDatagram - 1, maxDatagram, maxDatagram + 1, maxDatagram + 9}
	d := api.Datagram{From: serial, To: r.Intn(64) + 1}
	size := r.Intn(6)
	if r.Intn(5) == 0 {
		size = sizes[r.Intn(len(sizes))]
	}
	d.Bytes = make([]byte, size)
	r.Read(d.Bytes)
	return d
}

// label answers d as a text.
func label(d api.Datagram) string {
	return strconv.Itoa(d.From) + " " + strconv.Itoa(d.To) + " " + string(d.Bytes)
}

func (l *ledger) send(t *testing.T, n *net.Net, d api.Datagram) {
	l.sent++
	fits := len(l.row) < l.most && len(d.Bytes) <= maxDatagram
	if n.Send(d) != fits {
		t.Fatalf("4.1: Send of %d bytes, %d of %d under way: not %v", len(d.Bytes), len(l.row), l.most, fits)
	}
	if !fits {
		l.lost++
		return
	}
	l.row = append(l.row, d)
	l.known[label(d)]++
}

func (l *ledger) double(t *testing.T, n *net.Net, k int) {
	fits := k >= 0 && k < len(l.row) && len(l.row) < l.most
	if n.Double(k) != fits {
		t.Fatalf("4.2: Double(%d), %d of %d under way: not %v", k, len(l.row), l.most, fits)
	}
	if fits {
		l.doubled++
		l.row = append(l.row, l.row[k])
		l.known[label(l.row[k])]++
	}
}

func (l *ledger) take(t *testing.T, n *net.Net, k int) {
	d, ok := n.Take(k)
	if ok != (k >= 0 && k < len(l.row)) {
		t.Fatalf("4.2: Take(%d) of %d answered %v", k, len(l.row), ok)
	}
	if !ok {
		return
	}
	l.taken++
	if !same(d, l.row[k]) {
		t.Fatalf("4.2: Take(%d) answered %v, not %v", k, d, l.row[k])
	}
	if l.known[label(d)]--; l.known[label(d)] < 0 {
		t.Fatalf("4.3: what was taken was never sent so, or taken too often: %v", d)
	}
	l.row = slices.Delete(l.row, k, k+1)
}

// counts holds what became of all that was sent against one another.
func (l *ledger) counts(t *testing.T, n *net.Net) {
	t.Helper()
	if l.sent+l.doubled != n.Len()+l.taken+n.Lost() {
		t.Fatalf("4.3: %d sent, %d doubled, but %d under way, %d taken, %d lost", l.sent, l.doubled, n.Len(), l.taken, n.Lost())
	}
	if n.Len() > l.most {
		t.Fatalf("W5: %d are under way in a net of %d", n.Len(), l.most)
	}
}

func TestWhatWasSentIsUnderWayOrTakenOrLost(t *testing.T) {
	r := rand.New(rand.NewSource(4))
	for _, most := range []int{1, 2, 3, 8, 40, maxBag} {
		n := fresh(t, most)
		l := &ledger{most: most, known: map[string]int{}}
		for i := range 1500 {
			k := r.Intn(len(l.row)+3) - 1
			switch r.Intn(5) {
			case 0, 1:
				l.send(t, n, anyGram(r, i))
			case 2:
				l.double(t, n, k)
			case 3:
				l.take(t, n, k)
			default:
				spoilAll(n.All())
			}
			l.counts(t, n)
			if i%50 == 0 {
				holds(t, n, l.lost, l.row...)
			}
		}
		holds(t, n, l.lost, l.row...)
		for len(l.row) > 0 {
			l.take(t, n, r.Intn(len(l.row)))
			l.counts(t, n)
		}
		holds(t, n, l.lost)
	}
}

func TestTheSameAgain(t *testing.T) {
	run := func() *net.Net {
		r := rand.New(rand.NewSource(11))
		n := fresh(t, 16)
		for i := range 400 {
			n.Send(anyGram(r, i))
			n.Double(r.Intn(20) - 2)
			n.Take(r.Intn(20) - 2)
		}
		return n
	}
	one, two := run(), run()
	holds(t, one, two.Lost(), two.All()...)
}
