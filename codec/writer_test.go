package codec_test

import (
	"bytes"
	"encoding/binary"
	"math"
	"strings"
	"testing"

	"mooring/codec"
)

// laid answers what a new Writer lays by do.
func laid(do func(w *codec.Writer)) []byte {
	w := codec.NewWriter()
	do(w)
	return w.Bytes()
}

// numbers answers the least and the greatest number of each size, and some
// beside them.
func numbers() []uint64 {
	list := []uint64{0, 1, 2, 126, 127, 128, 129, 255, 256, 300, 1 << 32, math.MaxInt64, 1 << 63, math.MaxUint64 - 1, math.MaxUint64}
	for size := 1; size <= 9; size++ {
		edge := uint64(1) << (7 * size)
		list = append(list, edge-1, edge, edge+1)
	}
	return list
}

func TestWriterLaysNothingAtFirst(t *testing.T) {
	if b := codec.NewWriter().Bytes(); len(b) != 0 {
		t.Errorf("1.1: a new Writer has laid %x", b)
	}
}

func TestWriterLaysEachByte(t *testing.T) {
	w := codec.NewWriter()
	for b := range 256 {
		w.Byte(byte(b))
		got := w.Bytes()
		if len(got) != b+1 || got[b] != byte(b) {
			t.Fatalf("1.1: Byte(%d): %x", b, got)
		}
	}
}

func TestWriterLaysNumbers(t *testing.T) {
	for _, c := range []struct {
		n    uint64
		want []byte
	}{
		{0, []byte{0}},
		{1, []byte{1}},
		{127, []byte{127}},
		{128, []byte{128, 1}},
		{300, []byte{0xac, 2}},
		{1<<14 - 1, []byte{255, 127}},
		{1 << 14, []byte{128, 128, 1}},
		{1<<63 - 1, []byte{255, 255, 255, 255, 255, 255, 255, 255, 127}},
		{1 << 63, []byte{128, 128, 128, 128, 128, 128, 128, 128, 128, 1}},
		{math.MaxUint64, []byte{255, 255, 255, 255, 255, 255, 255, 255, 255, 1}},
	} {
		if got := laid(func(w *codec.Writer) { w.Num(c.n) }); !bytes.Equal(got, c.want) {
			t.Errorf("1.1: Num(%d): %x, not %x", c.n, got, c.want)
		}
	}
	for _, n := range numbers() {
		want := binary.AppendUvarint(nil, n)
		if got := laid(func(w *codec.Writer) { w.Num(n) }); !bytes.Equal(got, want) {
			t.Errorf("1.1: Num(%d): %x, not %x", n, got, want)
		}
	}
}

func TestWriterLaysTexts(t *testing.T) {
	for _, c := range []struct {
		text []byte
		head []byte
	}{
		{nil, []byte{0}},
		{[]byte{}, []byte{0}},
		{[]byte{0}, []byte{1}},
		{[]byte("ab"), []byte{2}},
		{[]byte(strings.Repeat("x", 127)), []byte{127}},
		{[]byte(strings.Repeat("x", 128)), []byte{128, 1}},
		{[]byte(strings.Repeat("\xff", 300)), []byte{0xac, 2}},
	} {
		want := append(append([]byte{}, c.head...), c.text...)
		if got := laid(func(w *codec.Writer) { w.Text(c.text) }); !bytes.Equal(got, want) {
			t.Errorf("1.1: Text of %d bytes: %x, not %x", len(c.text), got, want)
		}
	}
}

func TestWriterLaysOneBehindTheOther(t *testing.T) {
	got := laid(func(w *codec.Writer) {
		w.Byte(7)
		w.Num(300)
		w.Text([]byte("ab"))
	})
	if want := []byte{7, 0xac, 2, 2, 'a', 'b'}; !bytes.Equal(got, want) {
		t.Errorf("1.1: the chapter's example: %x, not %x", got, want)
	}
}

func TestWriterGoesOnBehindBytes(t *testing.T) {
	w := codec.NewWriter()
	w.Byte(1)
	if !bytes.Equal(w.Bytes(), []byte{1}) || !bytes.Equal(w.Bytes(), []byte{1}) {
		t.Errorf("1.1: Bytes asked again: %x", w.Bytes())
	}
	w.Num(2)
	w.Text(nil)
	if !bytes.Equal(w.Bytes(), []byte{1, 2, 0}) {
		t.Errorf("1.1: behind Bytes: %x", w.Bytes())
	}
}

func TestWriterKeepsNoTextOfOthers(t *testing.T) {
	room := []byte("abcdef")
	text := room[:2]
	w := codec.NewWriter()
	w.Text(text)
	w.Byte(9)
	if string(room) != "abcdef" {
		t.Errorf("R2: what was handed in is changed: %s", room)
	}
	room[0] = 'z'
	if got := w.Bytes(); !bytes.Equal(got, []byte{2, 'a', 'b', 9}) {
		t.Errorf("R2: what was handed in is kept: %x", got)
	}
}

func TestWriterAnswersNewMemory(t *testing.T) {
	w := codec.NewWriter()
	w.Text([]byte("ab"))
	first, second := w.Bytes(), w.Bytes()
	overwrite(first)
	if want := []byte{2, 'a', 'b'}; !bytes.Equal(second, want) || !bytes.Equal(w.Bytes(), want) {
		t.Errorf("R2: answers share memory: %x %x", second, w.Bytes())
	}
	w.Byte(5)
	overwrite(second)
	if got := w.Bytes(); !bytes.Equal(got, []byte{2, 'a', 'b', 5}) {
		t.Errorf("R2: an answer's spare room is the Writer's: %x", got)
	}
}

func TestWritersAreApart(t *testing.T) {
	v, w := codec.NewWriter(), codec.NewWriter()
	v.Byte(1)
	w.Byte(2)
	v.Num(3)
	w.Num(4)
	if !bytes.Equal(v.Bytes(), []byte{1, 3}) || !bytes.Equal(w.Bytes(), []byte{2, 4}) {
		t.Errorf("R8: %x %x", v.Bytes(), w.Bytes())
	}
}

// overwrite turns every byte of b, its spare room included.
func overwrite(b []byte) {
	b = b[:cap(b)]
	for i := range b {
		b[i] ^= 0xff
	}
}
