package wire_test

import (
	"bytes"
	"slices"
	"testing"

	"mooring/api"
	"mooring/wire"
)

func TestEncodeTheExample(t *testing.T) {
	b, e := wire.Encode(api.Msg{Kind: api.Ack, From: 1, To: 2, Call: 5})
	if e != api.OK || len(b) != 8 || !bytes.Equal(b[:4], []byte{3, 1, 2, 5}) || !bytes.Equal(b, seal(b[:4])) {
		t.Errorf("2.2: the chapter's example: %x %d", b, e)
	}
}

func TestEncodeEachKind(t *testing.T) {
	for _, s := range samples() {
		b, e := wire.Encode(s.m)
		if e != api.OK || !bytes.Equal(b, seal(s.b)) {
			t.Errorf("2.2: Encode(%+v): %x %d, not %x", s.m, b, e, seal(s.b))
		}
	}
}

// TestEncodeNumbers: each field of one number at its least and its greatest.
func TestEncodeNumbers(t *testing.T) {
	for _, s := range samples() {
		for _, name := range names {
			if !isPlain(name) || name == "Op" || !has(s.m.Kind, name) {
				continue
			}
			f := formOf(s.m.Kind, name)
			for _, n := range []uint64{f.least, f.most, (f.least + f.most) / 2, 127, 128, 16384} {
				m := s.m
				set(&m, name, n)
				if !may(m) {
					continue
				}
				if b, e := wire.Encode(m); e != api.OK || !bytes.Equal(b, seal(inner(m))) {
					t.Errorf("2.2: Encode(%+v): %x %d, not %x", m, b, e, seal(inner(m)))
				}
			}
		}
	}
}

func TestEncodeRefused(t *testing.T) {
	for _, s := range samples() {
		m := s.m
		m.To = m.From
		if b, e := wire.Encode(m); e != api.ErrArg || len(b) != 0 || cap(b) != 0 {
			t.Errorf("2.2: Encode(%+v): %x %d", m, b, e)
		}
	}
}

// TestEncodeKeepsNothing: the answer shares no memory with the message nor
// with another answer.
func TestEncodeKeepsNothing(t *testing.T) {
	for _, s := range samples() {
		b, _ := wire.Encode(s.m)
		other, _ := wire.Encode(s.m)
		for i := range other[:cap(other)] {
			other[:cap(other)][i] ^= 255
		}
		for i := range s.m.Refs {
			s.m.Refs[i] = api.ID{Node: 5, Serial: 5}
		}
		for i := range s.m.List {
			s.m.List[i] = 5
		}
		if !bytes.Equal(b, seal(s.b)) {
			t.Errorf("R2: what Encode answered has turned: %x", b)
		}
	}
}

// TestEncodeSizes: no message is longer than a datagram, the greatest of each
// Kind among them.
func TestEncodeSizes(t *testing.T) {
	x := api.ID{Node: 64, Serial: top}
	great := api.Msg{From: 64, To: 63, Call: top, Floor: top, Op: api.CallPut, Field: 63, Item: 4095, Target: x,
		Refs: []api.ID{x, x}, Value: all, Code: 10, Seq: top, Voucher: 64, At: all, Dist: 40, Stamp: all, List: rising(64, top)}
	sizes := []int{0, 3 + 8 + 8 + 1 + 1 + 9 + 10 + 1 + 18, 3 + 8 + 1 + 10 + 1 + 18, 3 + 8, 3 + 9 + 8 + 1 + 10 + 1, 3 + 9 + 8 + 10 + 1,
		3 + 9 + 8, 3 + 9 + 8, 3 + 8 + 2 + 1 + 9, 3 + 8 + 2 + 1 + 10 + 1 + 512, 3 + 8 + 2 + 9 + 10, 3 + 8 + 2}
	for kind := api.Request; kind <= api.Buried; kind++ {
		m := api.Msg{Kind: kind, From: great.From, To: great.To}
		for _, name := range names {
			switch {
			case !has(kind, name):
			case name == "Target":
				m.Target = great.Target
			case name == "Refs":
				m.Refs = slices.Clone(great.Refs)
			case name == "List":
				m.List = slices.Clone(great.List)
			default:
				set(&m, name, min(get(great, name), formOf(kind, name).most))
			}
		}
		if kind == api.Ask {
			m.Op = api.AskOut
		}
		b, e := wire.Encode(m)
		if e != api.OK || len(b) != sizes[kind]+4 || len(b) > api.MaxDatagram {
			t.Errorf("2.4: Encode(%+v): %d bytes, %d", m, len(b), e)
		}
		if got, e := wire.Decode(b); e != api.OK || !same(got, m) {
			t.Errorf("2.4: Decode of the greatest of Kind %d: %+v %d", kind, got, e)
		}
	}
}
