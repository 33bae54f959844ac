package wire_test

import (
	"bytes"
	"math/rand"
	"testing"

	"mooring/api"
	"mooring/wire"
)

// chooser picks the parts of messages that may be, and of some that may just
// not be, from a source that goes the same way at each run.
type chooser struct{ *rand.Rand }

// number picks one within a form, the ends more often than others, and now and
// then one that passes them.
func (c chooser) number(f form) uint64 {
	switch c.Intn(40) {
	case 0:
		return f.least - 1
	case 1:
		return f.most + 1
	case 2, 3, 4:
		return f.least
	case 5, 6, 7:
		return f.most
	}
	n := c.Uint64() >> c.Intn(64)
	if f.most == all {
		return max(n, f.least)
	}
	return f.least + n%(f.most-f.least+1)
}

func (c chooser) id() api.ID {
	if c.Intn(4) == 0 {
		return api.ID{}
	}
	return api.ID{Node: int(c.number(form{true, 1, 64})), Serial: c.number(form{false, 1, top})}
}

func (c chooser) list() []uint64 {
	var l []uint64
	n := uint64(0)
	for range c.Intn(67) {
		n += c.Uint64()>>(8+c.Intn(56))/64 + 1
		if c.Intn(300) == 0 {
			n--
		}
		l = append(l, n)
	}
	return l
}

func (c chooser) message() api.Msg {
	m := api.Msg{Kind: 1 + c.Intn(11), From: 1 + c.Intn(64), To: 1 + c.Intn(64)}
	for _, name := range names {
		switch {
		case !has(m.Kind, name):
		case name == "Target":
			m.Target = c.id()
		case name == "Refs":
			for range c.Intn(3) {
				m.Refs = append(m.Refs, c.id())
			}
		case name == "List":
			m.List = c.list()
		case name == "Floor":
			m.Floor = c.number(form{false, 1, max(m.Call, 1)})
		default:
			set(&m, name, c.number(formOf(m.Kind, name)))
		}
	}
	return m
}

// TestRound: Decode of Encode is the message, and one that may not be is
// refused.
func TestRound(t *testing.T) {
	c := chooser{rand.New(rand.NewSource(2))}
	var seen [12][2]int
	for range 60000 {
		m := c.message()
		want := may(m)
		if got := wire.Right(m); got != want {
			t.Fatalf("2.1: Right(%+v): %v", m, got)
		}
		if !want {
			seen[m.Kind][0]++
			continue
		}
		seen[m.Kind][1]++
		b, e := wire.Encode(m)
		if e != api.OK || !bytes.Equal(b, seal(inner(m))) || len(b) > api.MaxDatagram {
			t.Fatalf("2.2: Encode(%+v): %x %d", m, b, e)
		}
		if got, e := wire.Decode(b); e != api.OK || !same(got, m) {
			t.Fatalf("2.4: Decode(%x): %+v %d, not %+v", b, got, e, m)
		}
	}
	for kind := api.Request; kind <= api.Buried; kind++ {
		if seen[kind][0] < 100 || seen[kind][1] < 100 {
			t.Errorf("of Kind %d too few were tried: %v", kind, seen[kind])
		}
	}
}

// TestRoundOfAnyBytes: Decode is as the chapter says of bytes picked at will,
// and of messages with some of their bytes turned.
func TestRoundOfAnyBytes(t *testing.T) {
	c := chooser{rand.New(rand.NewSource(3))}
	few := []byte{0, 1, 2, 3, 9, 10, 11, 63, 64, 65, 127, 128, 129, 255}
	for range 60000 {
		b := make([]byte, c.Intn(24))
		for i := range b {
			b[i] = few[c.Intn(len(few))]
		}
		checkOpened(t, b)
		l := samples()
		b = l[c.Intn(len(l))].b
		for range 1 + c.Intn(3) {
			b[c.Intn(len(b))] = few[c.Intn(len(few))]
		}
		checkOpened(t, b)
	}
}

// FuzzDecode: any bytes, sealed or not.
func FuzzDecode(f *testing.F) {
	for _, s := range samples() {
		f.Add(s.b)
		f.Add(seal(s.b))
	}
	f.Fuzz(func(t *testing.T, b []byte) {
		if len(b) > api.MaxDatagram-4 {
			return
		}
		checkOpened(t, b)
		m, e := wire.Decode(b)
		if again, wrong := wire.Encode(m); e == api.OK && (wrong != api.OK || !bytes.Equal(again, b)) {
			t.Errorf("2.4: %x is encoded as %x", b, again)
		}
	})
}
