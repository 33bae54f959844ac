package wire_test

import (
	"bytes"
	"slices"
	"testing"

	"mooring/api"
	"mooring/wire"
)

// checkDecode holds Decode against the message and the error that are wanted.
func checkDecode(t *testing.T, b []byte, want api.Msg, wrong api.Errno) {
	t.Helper()
	m, e := wire.Decode(b)
	if e != wrong || !same(m, want) {
		t.Errorf("2.3: Decode(%x): %+v %d, not %+v %d", b, m, e, want, wrong)
	}
	if e != api.OK && (m.Refs != nil || m.List != nil) {
		t.Errorf("R3: Decode(%x): lists beside %d", b, e)
	}
}

// refused seals b, and holds Decode of it against wrong.
func refused(t *testing.T, b []byte, wrong api.Errno) {
	t.Helper()
	checkDecode(t, seal(b), api.Msg{}, wrong)
}

func TestDecodeTheExamples(t *testing.T) {
	b, _ := wire.Encode(api.Msg{Kind: api.Ack, From: 1, To: 2, Call: 5})
	checkDecode(t, b, api.Msg{Kind: api.Ack, From: 1, To: 2, Call: 5}, api.OK)
	checkDecode(t, nil, api.Msg{}, api.ErrShort)
	checkDecode(t, []byte{}, api.Msg{}, api.ErrShort)
}

func TestDecodeEachKind(t *testing.T) {
	for _, s := range samples() {
		checkDecode(t, seal(s.b), s.m, api.OK)
	}
}

// TestDecodeSizes: bytes that are too many are told ahead of a wrong sum.
func TestDecodeSizes(t *testing.T) {
	for n := range 4 {
		checkDecode(t, make([]byte, n), api.Msg{}, api.ErrShort)
		checkDecode(t, []byte{3, 1, 2, 5}[:n], api.Msg{}, api.ErrShort)
	}
	pad := func(n int) []byte { return append([]byte{3, 1, 2, 5}, make([]byte, n-8)...) }
	checkDecode(t, seal(pad(1023)), api.Msg{}, api.ErrForm)
	checkDecode(t, seal(pad(1024)), api.Msg{}, api.ErrForm)
	checkDecode(t, seal(pad(1025)), api.Msg{}, api.ErrLong)
	checkDecode(t, seal(pad(70000)), api.Msg{}, api.ErrLong)
	ones := bytes.Repeat([]byte{1}, 1025)
	checkDecode(t, ones[:1024], api.Msg{}, api.ErrSum)
	checkDecode(t, ones, api.Msg{}, api.ErrLong)
}

// TestDecodeSums: a wrong sum is told ahead of all that lies inside.
func TestDecodeSums(t *testing.T) {
	for _, s := range samples() {
		sealed := seal(s.b)
		for i := range sealed {
			for bit := range 8 {
				b := slices.Clone(sealed)
				b[i] ^= 1 << bit
				checkDecode(t, b, api.Msg{}, api.ErrSum)
			}
		}
		checkDecode(t, s.b, api.Msg{}, api.ErrSum)
		checkDecode(t, sealed[1:], api.Msg{}, api.ErrSum)
		checkDecode(t, append(sealed, 0), api.Msg{}, api.ErrSum)
	}
	for _, b := range [][]byte{{0, 0, 0, 0, 1}, {12, 0, 0, 0, 0}, {3, 1, 1, 5, 0, 0, 0, 0}, {3, 0, 0, 0, 0}} {
		checkDecode(t, b, api.Msg{}, api.ErrSum)
	}
}

// TestDecodeCutOff: cut off anywhere it is too short; with anything behind it
// it is no message.
func TestDecodeCutOff(t *testing.T) {
	for _, s := range samples() {
		for n := range s.b {
			refused(t, s.b[:n], api.ErrShort)
		}
		for _, tail := range [][]byte{{0}, {1}, {255}, {0, 0}, s.b} {
			refused(t, append(slices.Clone(s.b), tail...), api.ErrForm)
		}
	}
}

func TestDecodeKinds(t *testing.T) {
	for _, tail := range [][]byte{nil, {1}, {255}, {1, 2}, {65, 2, 5}, {1, 2, 5}, make([]byte, 900)} {
		refused(t, append([]byte{0}, tail...), api.ErrForm)
		for kind := 12; kind < 256; kind++ {
			refused(t, append([]byte{byte(kind)}, tail...), api.ErrLong)
		}
	}
}

func TestDecodeNodes(t *testing.T) {
	for n := range 256 {
		first := []byte{3, byte(n), 30, 5}
		second := []byte{3, 30, byte(n), 5}
		for _, b := range [][]byte{first, second} {
			switch {
			case n > 64:
				refused(t, b, api.ErrLong)
			case n == 0 || n == 30:
				refused(t, b, api.ErrForm)
			default:
				checkDecode(t, seal(b), api.Msg{Kind: 3, From: int(b[1]), To: int(b[2]), Call: 5}, api.OK)
			}
		}
	}
}

// TestDecodeRefused: wrong inputs, and which error comes first.
func TestDecodeRefused(t *testing.T) {
	beyond := []byte{128, 128, 128, 128, 128, 128, 128, 128, 1} // MaxSerial and one
	highest := []byte{255, 255, 255, 255, 255, 255, 255, 255, 255, 1}
	with := func(head []byte, mid []byte, tail ...byte) []byte {
		return slices.Concat(head, mid, tail)
	}
	for _, c := range []struct {
		b []byte
		e api.Errno
	}{
		// a number too great
		{with([]byte{3, 1, 2}, beyond), api.ErrLong},
		{with([]byte{2, 2, 1}, beyond, 0, 0, 0), api.ErrLong},
		{with([]byte{1, 1, 2, 5, 1, 3, 5, 2}, beyond, 7, 0), api.ErrLong},
		{[]byte{1, 1, 2, 5, 1, 3, 5, 65, 9, 7, 0}, api.ErrLong},
		{[]byte{1, 1, 2, 5, 1, 7, 5, 2, 9, 7, 0}, api.ErrLong},
		{[]byte{1, 1, 2, 5, 1, 3, 64, 2, 9, 7, 0}, api.ErrLong},
		{[]byte{1, 1, 2, 5, 1, 3, 5, 2, 9, 7, 1, 65, 4}, api.ErrLong},
		{with([]byte{1, 1, 2, 5, 1, 3, 5, 2, 9, 7, 1, 1}, beyond), api.ErrLong},
		{with([]byte{1, 1, 2, 5, 1, 3, 5, 2, 9, 7, 2, 0, 0, 1}, beyond), api.ErrLong},
		{[]byte{2, 2, 1, 5, 11, 0, 0}, api.ErrLong},
		{with([]byte{4, 1, 2, 2, 9}, beyond, 3, 100, 40), api.ErrLong},
		{[]byte{4, 1, 2, 2, 9, 1, 65, 100, 40}, api.ErrLong},
		{[]byte{4, 1, 2, 2, 9, 1, 3, 100, 41}, api.ErrLong},
		{[]byte{5, 2, 1, 2, 9, 1, 0, 11}, api.ErrLong},
		{with([]byte{6, 1, 2, 2, 9}, beyond), api.ErrLong},
		{with([]byte{7, 1, 2, 2}, beyond, 1), api.ErrLong},
		{[]byte{8, 1, 2, 6, 0x80, 32, 1, 2, 9}, api.ErrLong},
		{[]byte{8, 1, 2, 6, 0, 4, 2, 9}, api.ErrLong},
		{[]byte{9, 2, 1, 6, 0, 3, 7, 0}, api.ErrLong},
		{[]byte{9, 2, 1, 6, 0x80, 32, 2, 7, 0}, api.ErrLong},
		{with([]byte{9, 2, 1, 6, 0, 2, 7, 1}, beyond), api.ErrLong},
		{with([]byte{9, 2, 1, 6, 0, 2, 7, 2, 5}, beyond), api.ErrLong},
		{with([]byte{10, 1, 2}, beyond, 1, 2, 9, 7), api.ErrLong},
		{[]byte{11, 2, 1, 6, 0x80, 32}, api.ErrLong},
		// a count too great, ahead of what it counts
		{[]byte{1, 1, 2, 5, 1, 3, 5, 2, 9, 7, 3}, api.ErrLong},
		{[]byte{1, 1, 2, 5, 1, 3, 5, 2, 9, 7, 3, 0, 0, 0, 0, 0, 0}, api.ErrLong},
		{with([]byte{2, 2, 1, 5, 0, 0}, highest), api.ErrLong},
		{[]byte{9, 2, 1, 6, 0, 2, 7, 65}, api.ErrLong},
		{with([]byte{9, 2, 1, 6, 0, 2, 7, 65}, make([]byte, 65)), api.ErrLong},
		{with([]byte{9, 2, 1, 6, 0, 2, 7}, highest), api.ErrLong},
		// a count too great for what is there
		{[]byte{2, 2, 1, 5, 0, 0, 2, 1, 1}, api.ErrShort},
		{[]byte{9, 2, 1, 6, 0, 2, 7, 64, 1, 2}, api.ErrShort},
		// read whole, and may not be
		{[]byte{3, 1, 1, 5}, api.ErrForm},
		{[]byte{3, 0, 1, 5}, api.ErrForm},
		{[]byte{3, 1, 0, 5}, api.ErrForm},
		{[]byte{3, 1, 2, 0}, api.ErrForm},
		{[]byte{1, 1, 2, 5, 0, 3, 5, 2, 9, 7, 0}, api.ErrForm},
		{[]byte{1, 1, 2, 5, 6, 3, 5, 2, 9, 7, 0}, api.ErrForm},
		{with([]byte{1, 1, 2, 5}, highest, 3, 5, 2, 9, 7, 0), api.ErrForm},
		{[]byte{1, 1, 2, 5, 1, 0, 5, 2, 9, 7, 0}, api.ErrForm},
		{[]byte{1, 1, 2, 5, 1, 1, 5, 2, 9, 7, 0}, api.ErrForm},
		{[]byte{1, 1, 2, 5, 1, 6, 5, 2, 9, 7, 0}, api.ErrForm},
		{[]byte{1, 1, 2, 5, 1, 3, 5, 0, 0, 7, 0}, api.ErrForm},
		{[]byte{1, 1, 2, 5, 1, 3, 5, 2, 0, 7, 0}, api.ErrForm},
		{[]byte{1, 1, 2, 5, 1, 3, 5, 0, 9, 7, 0}, api.ErrForm},
		{[]byte{1, 1, 2, 5, 1, 3, 5, 2, 9, 7, 1, 0, 9}, api.ErrForm},
		{[]byte{2, 2, 1, 5, 0, 0, 2, 0, 0, 2, 0}, api.ErrForm},
		{[]byte{4, 1, 2, 0, 0, 1, 3, 100, 40}, api.ErrForm},
		{[]byte{4, 1, 2, 2, 9, 0, 3, 100, 40}, api.ErrForm},
		{[]byte{4, 1, 2, 2, 9, 1, 0, 100, 40}, api.ErrForm},
		{[]byte{4, 1, 2, 2, 9, 1, 3, 100, 0}, api.ErrForm},
		{[]byte{6, 1, 2, 0, 0, 1}, api.ErrForm},
		{[]byte{8, 1, 2, 6, 0, 0, 2, 9}, api.ErrForm},
		{[]byte{8, 1, 2, 6, 0, 1, 0, 0}, api.ErrForm},
		{[]byte{8, 1, 2, 6, 0, 3, 2, 9}, api.ErrForm},
		{[]byte{9, 2, 1, 6, 0, 2, 7, 1, 0}, api.ErrForm},
		{[]byte{9, 2, 1, 6, 0, 2, 7, 2, 8, 8}, api.ErrForm},
		{[]byte{9, 2, 1, 6, 0, 2, 7, 2, 8, 3}, api.ErrForm},
		{[]byte{10, 1, 2, 6, 1, 0, 0, 7}, api.ErrForm},
		// a number in another form than its own
		{[]byte{3, 1, 2, 0x85, 0}, api.ErrForm},
		{[]byte{9, 2, 1, 6, 0, 2, 7, 0x80, 0}, api.ErrForm},
		{[]byte{1, 1, 2, 5, 0x81, 0, 3, 5, 2, 9, 7, 0}, api.ErrForm},
		{with([]byte{2, 2, 1, 5, 0}, highest[:9], 2, 0), api.ErrForm},
		// several are wrong: the first from the left, and a message that may
		// not be behind all of them
		{[]byte{3, 1, 1}, api.ErrShort},
		{[]byte{3, 1, 1, 0x80}, api.ErrShort},
		{[]byte{3, 65}, api.ErrLong},
		{[]byte{3, 65, 65}, api.ErrLong},
		{[]byte{3, 0, 65}, api.ErrLong},
		{with([]byte{3, 1, 1}, beyond), api.ErrLong},
		{[]byte{3, 65, 2, 0x85, 0}, api.ErrLong},
		{[]byte{1, 1, 2, 0x85, 0, 1, 7}, api.ErrForm},
		{[]byte{1, 1, 2, 5, 1, 7}, api.ErrLong},
		{[]byte{1, 1, 2, 5, 9, 7, 5, 2, 9, 7, 0}, api.ErrLong},
		{[]byte{1, 1, 2, 5, 9, 3, 5, 2, 9, 7}, api.ErrShort},
		{[]byte{9, 2, 1, 6, 0, 2, 7, 3, 8, 3}, api.ErrShort},
		{[]byte{9, 2, 1, 6, 0, 2, 7, 3, 8, 3, 0x80, 0}, api.ErrForm},
		{with([]byte{9, 2, 1, 6, 0, 2, 7, 3, 8, 3}, beyond), api.ErrLong},
		{[]byte{3, 1, 1, 5, 0}, api.ErrForm},
	} {
		refused(t, c.b, c.e)
	}
}

// TestDecodeTakesTheGreatest: each number at its greatest is read.
func TestDecodeTakesTheGreatest(t *testing.T) {
	for _, s := range samples() {
		for _, name := range names {
			if !isPlain(name) || name == "Op" || !has(s.m.Kind, name) {
				continue
			}
			m := s.m
			f := formOf(m.Kind, name)
			set(&m, name, f.most)
			if name == "Floor" {
				m.Floor = m.Call
			}
			checkDecode(t, seal(inner(m)), m, api.OK)
			if f.most == all {
				continue
			}
			set(&m, name, f.most+1)
			refused(t, inner(m), api.ErrLong)
		}
	}
}

// TestDecodeTurnedBytes: every sample with each of its bytes as every other
// byte, and with each byte left out or doubled, as the chapter says.
func TestDecodeTurnedBytes(t *testing.T) {
	for _, s := range samples() {
		for i := range s.b {
			for n := range 256 {
				b := slices.Clone(s.b)
				b[i] = byte(n)
				checkOpened(t, b)
				checkOpened(t, b[:i+1])
				checkOpened(t, slices.Insert(slices.Clone(s.b), i, byte(n)))
			}
			checkOpened(t, slices.Delete(slices.Clone(s.b), i, i+1))
		}
	}
}

// checkOpened holds Decode of b, sealed, against opened; what is decoded is
// encoded as the same bytes.
func checkOpened(t *testing.T, b []byte) {
	t.Helper()
	want, wrong := opened(b)
	checkDecode(t, seal(b), want, wrong)
	if wrong != api.OK {
		return
	}
	m, _ := wire.Decode(seal(b))
	if again, e := wire.Encode(m); e != api.OK || !bytes.Equal(again, seal(b)) {
		t.Errorf("2.4: %x is decoded as %+v and encoded as %x %d", seal(b), m, again, e)
	}
}

// TestDecodeKeepsNothing: what is handed in isn't changed, nor its spare room;
// the message shares no memory with it, nor with another answer.
func TestDecodeKeepsNothing(t *testing.T) {
	for _, s := range samples() {
		room := append(seal(s.b), 7, 8, 9)
		was := slices.Clone(room)
		b := room[:len(room)-3]
		m, _ := wire.Decode(b)
		if !bytes.Equal(room, was) {
			t.Errorf("R2: Decode has turned %x to %x", was, room)
		}
		other, _ := wire.Decode(b)
		for i := range room {
			room[i] ^= 255
		}
		for i := range other.Refs[:cap(other.Refs)] {
			other.Refs[:cap(other.Refs)][i] = api.ID{Node: 5, Serial: 5}
		}
		for i := range other.List[:cap(other.List)] {
			other.List[:cap(other.List)][i] = 5
		}
		if !same(m, s.m) {
			t.Errorf("R2: what Decode answered has turned: %+v", m)
		}
	}
}
