package codec_test

import (
	"bytes"
	"math"
	"testing"

	"mooring/api"
	"mooring/codec"
)

// item is one thing that is laid: a byte ('b'), a number ('n') or a text ('t').
type item struct {
	kind byte
	n    uint64
	text []byte
}

func lay(w *codec.Writer, list []item) {
	for _, x := range list {
		switch x.kind {
		case 'b':
			w.Byte(byte(x.n))
		case 'n':
			w.Num(x.n)
		case 't':
			w.Text(x.text)
		}
	}
}

// read reads as list was laid, with bounds that are just met, or the greatest.
func read(r *codec.Reader, list []item, tight bool) []item {
	var got []item
	for _, x := range list {
		y := item{kind: x.kind}
		switch {
		case x.kind == 'b' && tight:
			y.n = uint64(r.Byte(byte(x.n)))
		case x.kind == 'b':
			y.n = uint64(r.Byte(255))
		case x.kind == 'n' && tight:
			y.n = r.Num(x.n)
		case x.kind == 'n':
			y.n = r.Num(math.MaxUint64)
		case tight:
			y.text = r.Text(len(x.text))
		default:
			y.text = r.Text(math.MaxInt)
		}
		got = append(got, y)
	}
	return got
}

func same(a, b item) bool {
	return a.kind == b.kind && a.n == b.n && bytes.Equal(a.text, b.text)
}

// lists answers runs of items: each kind behind each, and all numbers.
func lists() [][]item {
	some := []item{{kind: 'b'}, {kind: 'b', n: 255}, {kind: 'n'}, {kind: 'n', n: 300}, {kind: 'n', n: math.MaxUint64}, {kind: 't'}, {kind: 't', text: []byte("ab")}, {kind: 't', text: sample(130)}}
	all := [][]item{nil, some}
	for _, a := range some {
		for _, b := range some {
			all = append(all, []item{a, b})
		}
	}
	var nums []item
	for _, n := range numbers() {
		nums = append(nums, item{kind: 'n', n: n})
	}
	return append(all, nums)
}

func TestWhatIsLaidIsRead(t *testing.T) {
	for _, list := range lists() {
		b := laid(func(w *codec.Writer) { lay(w, list) })
		for _, tight := range []bool{true, false} {
			r := codec.NewReader(b)
			got := read(r, list, tight)
			if e := r.End(); e != api.OK {
				t.Errorf("1.4: %x: %d", b, e)
			}
			for i := range list {
				if !same(got[i], list[i]) {
					t.Errorf("1.4: %x: %v, not %v", b, got[i], list[i])
				}
			}
			if again := laid(func(w *codec.Writer) { lay(w, got) }); !bytes.Equal(again, b) {
				t.Errorf("1.4: %x is laid as %x", b, again)
			}
		}
	}
}

func TestCutOffAnywhereIsShort(t *testing.T) {
	for _, list := range lists() {
		b := laid(func(w *codec.Writer) { lay(w, list) })
		for k := range b {
			for _, tight := range []bool{true, false} {
				r := codec.NewReader(b[:k])
				checkCut(t, list, read(r, list, tight))
				if e := r.End(); e != api.ErrShort {
					t.Errorf("1.4: %x cut to %d bytes: %d", b, k, e)
				}
			}
		}
	}
}

// checkCut: what was laid is read up to some item, and nothing from there on.
func checkCut(t *testing.T, list, got []item) {
	t.Helper()
	whole := 0
	for whole < len(list) && same(got[whole], list[whole]) {
		whole++
	}
	for _, x := range got[whole:] {
		if x.n != 0 || len(x.text) != 0 {
			t.Errorf("1.4: %v is read behind a cut", x)
		}
	}
}
