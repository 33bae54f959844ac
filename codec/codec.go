// Package codec: numbers as bytes, sums: see DOC.md, chapter 1.
package codec

import "mooring/api"

const (
	more     = 128 // added to each digit of a number but its last
	mostSize = 10  // bytes of a 64-bit number at the most
)

// Writer lays bytes.
type Writer struct {
	laid []byte
}

// NewWriter answers a Writer that has laid nothing.
func NewWriter() *Writer { return &Writer{} }

// Byte lays b.
func (w *Writer) Byte(b byte) { w.laid = append(w.laid, b) }

// Num lays n's digits to the base 128, the lowest first.
func (w *Writer) Num(n uint64) {
	for n >= more {
		w.Byte(byte(n%more) + more)
		n /= more
	}
	w.Byte(byte(n))
}

// Text lays how many bytes b has, and these.
func (w *Writer) Text(b []byte) {
	w.Num(uint64(len(b)))
	w.laid = append(w.laid, b...)
}

// Bytes answers all that was laid.
func (w *Writer) Bytes() []byte { return fresh(w.laid) }

// Reader reads what a Writer laid, and keeps what was wrong first: so a caller
// may read all it wants and ask once, at the end.
type Reader struct {
	bytes []byte
	place int
	wrong api.Errno
}

// NewReader answers a Reader at the beginning of b.
func NewReader(b []byte) *Reader { return &Reader{bytes: fresh(b)} }

// Byte reads a byte of at most most.
func (r *Reader) Byte(most byte) byte {
	if r.wrong != api.OK {
		return 0
	}
	left := r.left()
	if len(left) == 0 {
		r.wrong = api.ErrShort
		return 0
	}
	if left[0] > most {
		r.wrong = api.ErrLong
		return 0
	}
	r.place++
	return left[0]
}

// Num reads a number of at most most.
func (r *Reader) Num(most uint64) uint64 {
	if r.wrong != api.OK {
		return 0
	}
	n, size, e := number(r.left())
	if e == api.OK && n > most {
		e = api.ErrLong
	}
	if e != api.OK {
		r.wrong = e
		return 0
	}
	r.place += size
	return n
}

// Text reads at most most bytes, their number ahead of them.
func (r *Reader) Text(most int) []byte {
	began := r.place
	n := r.Num(uint64(max(most, 0)))
	if r.wrong != api.OK {
		return nil
	}
	left := r.left()
	if n > uint64(len(left)) {
		r.wrong = api.ErrShort
		r.place = began
		return nil
	}
	r.place += int(n)
	return fresh(left[:n])
}

// End tells what was wrong first, or that bytes are left. The latter isn't
// kept: they may still be read.
func (r *Reader) End() api.Errno {
	if r.wrong == api.OK && len(r.left()) > 0 {
		return api.ErrForm
	}
	return r.wrong
}

func (r *Reader) left() []byte { return r.bytes[r.place:] }

// number reads the number at the beginning of b, and tells how many bytes it
// has. It looks at mostSize of them at the most: the tenth ends the number or
// is wrong.
func number(b []byte) (n uint64, size int, e api.Errno) {
	for i, d := range b {
		if i == mostSize-1 && d > 1 {
			return 0, 0, api.ErrForm
		}
		n |= uint64(d%more) << (7 * i)
		if d >= more {
			continue
		}
		if d == 0 && i > 0 {
			return 0, 0, api.ErrForm
		}
		return n, i + 1, api.OK
	}
	return 0, 0, api.ErrShort
}

// fresh answers b's bytes in memory of their own: nothing is shared with who
// handed them in or is answered.
func fresh(b []byte) []byte {
	c := make([]byte, len(b))
	copy(c, b)
	return c
}
