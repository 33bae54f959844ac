package net

import (
	"testing"

	"mooring/api"
)

// From outside no shared byte could be told while all that comes out is
// copied: so the row itself is looked at.
func TestNoTwoOfTheRowShareBytes(t *testing.T) {
	n, _ := New(4)
	sent := []byte("abc")
	n.Send(api.Datagram{Bytes: sent})
	n.Double(0)
	n.Double(1)
	for k := range n.row {
		n.row[k].Bytes[0] = byte('0' + k)
	}
	for k, want := range []string{"0bc", "1bc", "2bc"} {
		if got := string(n.row[k].Bytes); got != want {
			t.Errorf("R2: the row's %d is %q, not %q", k, got, want)
		}
	}
	if string(sent) != "abc" {
		t.Errorf("R2: what was sent is now %q", sent)
	}
}

func TestWhatWasTakenIsNotKept(t *testing.T) {
	n, _ := New(4)
	for range 4 {
		n.Send(api.Datagram{Bytes: []byte("abc")})
	}
	for n.Len() > 0 {
		n.Take(n.Len() / 2)
		for k, d := range n.row[n.Len():cap(n.row)] {
			if d.Bytes != nil {
				t.Fatalf("4.2: with %d under way, the spare room keeps %q at %d", n.Len(), d.Bytes, k)
			}
		}
	}
}
