package codec_test

import (
	"bytes"
	"encoding/binary"
	"math"
	"strings"
	"testing"

	"mooring/api"
	"mooring/codec"
)

func TestReaderReadsTheExample(t *testing.T) {
	r := codec.NewReader([]byte{7, 0xac, 2, 2, 'a', 'b'})
	x, n, s, e := r.Byte(9), r.Num(300), r.Text(5), r.End()
	if x != 7 || n != 300 || string(s) != "ab" || e != api.OK {
		t.Errorf("1.2: the chapter's example: %d %d %q %d", x, n, s, e)
	}
}

func TestReaderBytes(t *testing.T) {
	for _, c := range []struct {
		b    []byte
		most byte
		want byte
		end  api.Errno
	}{
		{nil, 255, 0, api.ErrShort},
		{[]byte{}, 0, 0, api.ErrShort},
		{[]byte{0}, 0, 0, api.OK},
		{[]byte{1}, 0, 0, api.ErrLong},
		{[]byte{8}, 9, 8, api.OK},
		{[]byte{9}, 9, 9, api.OK},
		{[]byte{10}, 9, 0, api.ErrLong},
		{[]byte{128}, 255, 128, api.OK},
		{[]byte{255}, 255, 255, api.OK},
		{[]byte{255}, 254, 0, api.ErrLong},
		{[]byte{3, 4}, 9, 3, api.ErrForm},
	} {
		r := codec.NewReader(c.b)
		if got, end := r.Byte(c.most), r.End(); got != c.want || end != c.end {
			t.Errorf("1.2: of %x Byte(%d): %d %d, not %d %d", c.b, c.most, got, end, c.want, c.end)
		}
	}
}

// nines answers nine bytes that ask for a next one, and tail.
func nines(tail ...byte) []byte {
	return append(bytes.Repeat([]byte{255}, 9), tail...)
}

func TestReaderNumbers(t *testing.T) {
	const all = math.MaxUint64
	for _, c := range []struct {
		b    []byte
		most uint64
		want uint64
		end  api.Errno
	}{
		{nil, all, 0, api.ErrShort},
		{nil, 0, 0, api.ErrShort},
		{[]byte{0}, 0, 0, api.OK},
		{[]byte{0}, all, 0, api.OK},
		{[]byte{1}, 0, 0, api.ErrLong},
		{[]byte{127}, 127, 127, api.OK},
		{[]byte{127}, 126, 0, api.ErrLong},
		{[]byte{128}, all, 0, api.ErrShort},
		{[]byte{128}, 0, 0, api.ErrShort},
		{[]byte{128, 1}, 128, 128, api.OK},
		{[]byte{128, 1}, 127, 0, api.ErrLong},
		{[]byte{128, 0}, 9, 0, api.ErrForm},
		{[]byte{128, 0}, 0, 0, api.ErrForm},
		{[]byte{129, 0}, 0, 0, api.ErrForm},
		{[]byte{128, 128, 0}, all, 0, api.ErrForm},
		{[]byte{128, 128, 0, 1}, all, 0, api.ErrForm},
		{[]byte{0xac, 2}, 300, 300, api.OK},
		{[]byte{0xac, 2}, 299, 0, api.ErrLong},
		{[]byte{0xac, 2}, 301, 300, api.OK},
		{[]byte{0xac, 2, 0}, 300, 300, api.ErrForm},
		{nines(), all, 0, api.ErrShort},
		{nines(1), all, all, api.OK},
		{nines(1), all - 1, 0, api.ErrLong},
		{nines(0), all, 0, api.ErrForm},
		{nines(0), 5, 0, api.ErrForm},
		{nines(2), all, 0, api.ErrForm},
		{nines(2), 0, 0, api.ErrForm},
		{nines(127), all, 0, api.ErrForm},
		{nines(128), all, 0, api.ErrForm},
		{nines(129, 0), all, 0, api.ErrForm},
		{nines(255), all, 0, api.ErrForm},
		{nines(255, 1), all, 0, api.ErrForm},
		{nines(1, 0), all, all, api.ErrForm},
		{nines()[:8], all, 0, api.ErrShort},
		{append(nines()[:8], 127), 1<<63 - 1, 1<<63 - 1, api.OK},
		{append(nines()[:8], 127), 1<<63 - 2, 0, api.ErrLong},
	} {
		r := codec.NewReader(c.b)
		if got, end := r.Num(c.most), r.End(); got != c.want || end != c.end {
			t.Errorf("1.2: of %x Num(%d): %d %d, not %d %d", c.b, c.most, got, end, c.want, c.end)
		}
	}
}

// number is 1.2's Num, by the library's: how many bytes the number has is 0
// where something is wrong.
func number(b []byte, most uint64) (uint64, int, api.Errno) {
	n, size := binary.Uvarint(b[:min(len(b), 10)])
	tenth := len(b) >= 10 && size <= 0
	switch {
	case tenth:
		return 0, 0, api.ErrForm
	case size <= 0:
		return 0, 0, api.ErrShort
	case size > 1 && b[size-1] == 0:
		return 0, 0, api.ErrForm
	case n > most:
		return 0, 0, api.ErrLong
	}
	return n, size, api.OK
}

// checkNumber holds Num against number, and what was read against what is laid
// of it.
func checkNumber(t *testing.T, b []byte, most uint64) {
	t.Helper()
	want, size, wrong := number(b, most)
	end := wrong
	if wrong == api.OK && size < len(b) {
		end = api.ErrForm
	}
	r := codec.NewReader(b)
	got, e := r.Num(most), r.End()
	if got != want || e != end {
		t.Fatalf("1.2: of %x Num(%d): %d %d, not %d %d", b, most, got, e, want, end)
	}
	if wrong != api.OK {
		return
	}
	if again := laid(func(w *codec.Writer) { w.Num(got) }); !bytes.Equal(again, b[:size]) {
		t.Fatalf("1.4: %x is read as %d and laid as %x", b[:size], got, again)
	}
}

func TestReaderNumbersOfAllShortBytes(t *testing.T) {
	for _, most := range []uint64{0, 127, 128, 300, math.MaxUint64} {
		checkNumber(t, nil, most)
		for x := range 256 {
			checkNumber(t, []byte{byte(x)}, most)
			for y := range 256 {
				checkNumber(t, []byte{byte(x), byte(y)}, most)
			}
		}
	}
}

func TestReaderNumbersOfManyTails(t *testing.T) {
	kinds := []byte{0, 1, 2, 127, 128, 129, 255}
	for ahead := 0; ahead <= 9; ahead++ {
		for _, first := range []byte{128, 255} {
			head := bytes.Repeat([]byte{first}, ahead)
			for i := range len(kinds) * len(kinds) * len(kinds) {
				tail := []byte{kinds[i%7], kinds[i/7%7], kinds[i/49]}
				b := append(append([]byte{}, head...), tail...)
				checkNumber(t, b, math.MaxUint64)
				checkNumber(t, b, 1<<40)
				checkNumber(t, b[:ahead+1], math.MaxUint64)
			}
		}
	}
}

func TestReaderTexts(t *testing.T) {
	long := []byte(strings.Repeat("y", 300))
	for _, c := range []struct {
		b    []byte
		most int
		want string
		end  api.Errno
	}{
		{nil, 5, "", api.ErrShort},
		{nil, -1, "", api.ErrShort},
		{[]byte{0}, 0, "", api.OK},
		{[]byte{0}, 5, "", api.OK},
		{[]byte{0}, -1, "", api.OK},
		{[]byte{0}, math.MinInt, "", api.OK},
		{[]byte{1, 'a'}, 0, "", api.ErrLong},
		{[]byte{1, 'a'}, -1, "", api.ErrLong},
		{[]byte{1, 'a'}, math.MinInt, "", api.ErrLong},
		{[]byte{2, 'a', 'b'}, 2, "ab", api.OK},
		{[]byte{2, 'a', 'b'}, 1, "", api.ErrLong},
		{[]byte{2, 'a', 'b'}, 3, "ab", api.OK},
		{[]byte{2, 'a', 'b'}, math.MaxInt, "ab", api.OK},
		{[]byte{2, 'a', 'b', 'c'}, 2, "ab", api.ErrForm},
		{[]byte{2, 'a'}, 2, "", api.ErrShort},
		{[]byte{2}, 2, "", api.ErrShort},
		{[]byte{2}, 1, "", api.ErrLong},
		{[]byte{128}, 5, "", api.ErrShort},
		{[]byte{128, 0}, 5, "", api.ErrForm},
		{[]byte{129, 0, 'a'}, 5, "", api.ErrForm},
		{nines(2), math.MaxInt, "", api.ErrForm},
		{nines(1), math.MaxInt, "", api.ErrLong},
		{append(nines()[:8], 127), math.MaxInt, "", api.ErrShort},
		{append(nines()[:8], 127), math.MaxInt - 1, "", api.ErrLong},
		{append([]byte{0xac, 2}, long...), 300, string(long), api.OK},
		{append([]byte{0xac, 2}, long...), 299, "", api.ErrLong},
		{append([]byte{0xac, 2}, long[1:]...), 300, "", api.ErrShort},
	} {
		r := codec.NewReader(c.b)
		if got, end := r.Text(c.most), r.End(); string(got) != c.want || end != c.end {
			t.Errorf("1.2: of %x Text(%d): %q %d, not %q %d", c.b, c.most, got, end, c.want, c.end)
		}
	}
}

func TestReaderKeepsWhatWasWrongFirst(t *testing.T) {
	for _, c := range []struct {
		name string
		b    []byte
		do   func(r *codec.Reader)
		end  api.Errno
	}{
		{"Byte, too great", []byte{9, 9, 9}, func(r *codec.Reader) { r.Byte(8) }, api.ErrLong},
		{"Byte, none left", nil, func(r *codec.Reader) { r.Byte(255) }, api.ErrShort},
		{"Num, none left", nil, func(r *codec.Reader) { r.Num(9) }, api.ErrShort},
		{"Num, cut off", []byte{128}, func(r *codec.Reader) { r.Num(9) }, api.ErrShort},
		{"Num, a last 0", []byte{128, 0, 1, 1}, func(r *codec.Reader) { r.Num(9) }, api.ErrForm},
		{"Num, the tenth", nines(2, 1, 1), func(r *codec.Reader) { r.Num(9) }, api.ErrForm},
		{"Num, too great", []byte{10, 1, 1}, func(r *codec.Reader) { r.Num(9) }, api.ErrLong},
		{"Text, too few", []byte{2, 1}, func(r *codec.Reader) { r.Text(9) }, api.ErrShort},
		{"Text, too long", []byte{1, 0, 1}, func(r *codec.Reader) { r.Text(0) }, api.ErrLong},
		{"Text, a last 0", []byte{128, 0, 1}, func(r *codec.Reader) { r.Text(9) }, api.ErrForm},
	} {
		r := codec.NewReader(c.b)
		c.do(r)
		for range 2 {
			if e := r.End(); e != c.end {
				t.Errorf("1.2: %s: End %d, not %d", c.name, e, c.end)
			}
			x, n, s, none := r.Byte(255), r.Num(math.MaxUint64), r.Text(math.MaxInt), r.Text(-1)
			if x != 0 || n != 0 || len(s) != 0 || len(none) != 0 {
				t.Errorf("1.2: %s: goes on: %d %d %x %x", c.name, x, n, s, none)
			}
			if r.Byte(0) != 0 || r.Num(0) != 0 || r.End() != c.end {
				t.Errorf("1.2: %s: a later fault is kept: %d", c.name, r.End())
			}
		}
	}
}

func TestEndOfNothing(t *testing.T) {
	for _, b := range [][]byte{nil, {}} {
		r := codec.NewReader(b)
		if r.End() != api.OK || r.End() != api.OK {
			t.Errorf("1.2: End of nothing: %d", r.End())
		}
	}
}

func TestEndKeepsNothingOfBytesThatAreLeft(t *testing.T) {
	r := codec.NewReader([]byte{5, 0xac, 2, 1, 'a'})
	if r.End() != api.ErrForm || r.End() != api.ErrForm {
		t.Errorf("1.2: at the beginning: %d", r.End())
	}
	if x := r.Byte(5); x != 5 || r.End() != api.ErrForm {
		t.Errorf("1.2: behind Byte: %d %d", x, r.End())
	}
	if n := r.Num(300); n != 300 || r.End() != api.ErrForm {
		t.Errorf("1.2: behind Num: %d %d", n, r.End())
	}
	if s := r.Text(1); string(s) != "a" || r.End() != api.OK || r.End() != api.OK {
		t.Errorf("1.2: behind Text: %q %d", s, r.End())
	}
	if x := r.Byte(255); x != 0 || r.End() != api.ErrShort {
		t.Errorf("1.2: behind the end: %d %d", x, r.End())
	}
}

func TestEndTellsWhatWasWrongAheadOfBytesThatAreLeft(t *testing.T) {
	r := codec.NewReader([]byte{5, 1, 2, 3})
	if r.End() != api.ErrForm || r.Byte(4) != 0 || r.End() != api.ErrLong {
		t.Errorf("1.2: %d", r.End())
	}
}

func TestReaderKeepsNothingOfOthers(t *testing.T) {
	room := []byte{5, 1, 'a', 77, 78}
	r := codec.NewReader(room[:3])
	room[0], room[2] = 6, 'z'
	if x, s := r.Byte(9), r.Text(9); x != 5 || string(s) != "a" || r.End() != api.OK {
		t.Errorf("R2: what was handed in is kept: %d %q %d", x, s, r.End())
	}
	if !bytes.Equal(room, []byte{6, 1, 'z', 77, 78}) {
		t.Errorf("R2: what was handed in is changed: %x", room)
	}
}

func TestReaderAnswersNewMemory(t *testing.T) {
	b := []byte{2, 'a', 'b', 1, 'c', 7}
	r := codec.NewReader(b)
	first := r.Text(2)
	overwrite(first)
	second := r.Text(1)
	if string(second) != "c" {
		t.Fatalf("R2: a text's spare room is the Reader's: %q", second)
	}
	overwrite(second)
	if x := r.Byte(7); x != 7 || r.End() != api.OK {
		t.Errorf("R2: a text's spare room is the Reader's: %d %d", x, r.End())
	}
	if !bytes.Equal(b, []byte{2, 'a', 'b', 1, 'c', 7}) {
		t.Errorf("R2: a text is what was handed in: %x", b)
	}
}

func TestReadersAreApart(t *testing.T) {
	b := []byte{1, 2}
	q, r := codec.NewReader(b), codec.NewReader(b)
	q.Byte(0)
	if q.End() != api.ErrLong || r.Byte(1) != 1 || r.Num(2) != 2 || r.End() != api.OK {
		t.Errorf("R8: %d %d", q.End(), r.End())
	}
}
