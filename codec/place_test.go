package codec

import (
	"bytes"
	"math"
	"testing"

	"mooring/api"
)

// TestPlaceStaysWhereTheCallBegan looks at the place itself: no later call
// tells it once something was wrong.
func TestPlaceStaysWhereTheCallBegan(t *testing.T) {
	nine := bytes.Repeat([]byte{255}, 9)
	for _, c := range []struct {
		name string
		b    []byte
		do   func(r *Reader)
		e    api.Errno
	}{
		{"Byte, none left", nil, func(r *Reader) { r.Byte(255) }, api.ErrShort},
		{"Byte, too great", []byte{9}, func(r *Reader) { r.Byte(8) }, api.ErrLong},
		{"Num, none left", nil, func(r *Reader) { r.Num(9) }, api.ErrShort},
		{"Num, cut off", []byte{128, 128}, func(r *Reader) { r.Num(9) }, api.ErrShort},
		{"Num, a last 0", []byte{128, 0}, func(r *Reader) { r.Num(9) }, api.ErrForm},
		{"Num, the tenth", append(nine, 2), func(r *Reader) { r.Num(math.MaxUint64) }, api.ErrForm},
		{"Num, too great", []byte{0xac, 2}, func(r *Reader) { r.Num(299) }, api.ErrLong},
		{"Text, cut off in the number", []byte{128}, func(r *Reader) { r.Text(9) }, api.ErrShort},
		{"Text, a last 0", []byte{128, 0}, func(r *Reader) { r.Text(9) }, api.ErrForm},
		{"Text, too long", []byte{2, 1, 1}, func(r *Reader) { r.Text(1) }, api.ErrLong},
		{"Text, none left", []byte{2}, func(r *Reader) { r.Text(9) }, api.ErrShort},
		{"Text, too few left", []byte{0xac, 2, 1, 1}, func(r *Reader) { r.Text(300) }, api.ErrShort},
	} {
		r := NewReader(append([]byte{4, 1, 'a'}, c.b...))
		r.Byte(4)
		r.Text(1)
		c.do(r)
		if r.place != 3 || r.End() != c.e {
			t.Errorf("1.2: %s: place %d, %d", c.name, r.place, r.End())
		}
		r.Byte(255)
		r.Num(math.MaxUint64)
		r.Text(math.MaxInt)
		if r.place != 3 || r.End() != c.e {
			t.Errorf("1.2: %s, and on: place %d, %d", c.name, r.place, r.End())
		}
	}
}

func TestPlaceGoesBehindWhatWasRead(t *testing.T) {
	r := NewReader([]byte{4, 0xac, 2, 2, 'a', 'b', 0, 9})
	places := []int{r.place}
	for _, do := range []func(){func() { r.Byte(4) }, func() { r.Num(300) }, func() { r.Text(2) }, func() { r.Text(-3) }, func() { r.End() }} {
		do()
		places = append(places, r.place)
	}
	want := []int{0, 1, 3, 6, 7, 7}
	for i := range want {
		if places[i] != want[i] {
			t.Fatalf("1.2: places %v, not %v", places, want)
		}
	}
}
