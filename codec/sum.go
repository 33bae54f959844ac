package codec

import "mooring/api"

const (
	allOnes = 1<<32 - 1
	turn    = 3988292384 // what an odd h is XORed with once it is halved
	sumSize = 4          // bytes of a sum
)

// Sum answers the sum of b.
func Sum(b []byte) uint32 {
	h := uint32(allOnes)
	for _, x := range b {
		h ^= uint32(x)
		for range 8 {
			h = halve(h)
		}
	}
	return h ^ allOnes
}

func halve(h uint32) uint32 {
	if h%2 == 1 {
		return h/2 ^ turn
	}
	return h / 2
}

// Seal answers b and its Sum behind it, the lowest byte first.
func Seal(b []byte) []byte {
	sealed := make([]byte, len(b)+sumSize)
	copy(sealed, b)
	s := Sum(b)
	for i := range sumSize {
		sealed[len(b)+i] = byte(s >> (8 * i))
	}
	return sealed
}

// Unseal answers what was sealed.
func Unseal(b []byte) ([]byte, api.Errno) {
	if len(b) < sumSize {
		return nil, api.ErrShort
	}
	inner := b[:len(b)-sumSize]
	if sumBehind(b[len(inner):]) != Sum(inner) {
		return nil, api.ErrSum
	}
	return fresh(inner), api.OK
}

func sumBehind(b []byte) uint32 {
	var s uint32
	for i := range sumSize {
		s |= uint32(b[i]) << (8 * i)
	}
	return s
}
