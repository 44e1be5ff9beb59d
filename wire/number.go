package wire

import "refrain/api"

// A number's form: groups of bits, each a byte, with a bit in each byte that says whether another one follows.
const (
	groupBits = 7
	more      = 1 << groupBits

	// 64 bits are nine groups and one bit: the place of the tenth byte, and the most that it may be.
	lastAt  = 64 / groupBits
	maxLast = 1<<(64%groupBits) - 1
)

// PutInt writes a number.
func PutInt(n int64) []byte { return appendInt(nil, n) }

func appendInt(b []byte, n int64) []byte {
	z := fold(n)
	for ; z >= more; z >>= groupBits {
		b = append(b, byte(z)|more)
	}
	return append(b, byte(z))
}

// Int reads a number: how many bytes it has.
func Int(b []byte) (int64, int, api.Errno) {
	var z uint64
	for i, x := range b {
		if i == lastAt && x > maxLast {
			return 0, 0, api.ErrBytes
		}
		z |= uint64(x&^more) << (groupBits * i)
		if x >= more {
			continue
		}
		if x == 0 && i > 0 {
			return 0, 0, api.ErrBytes
		}
		return unfold(z), i + 1, api.OK
	}
	return 0, 0, api.ErrShort
}

// fold lays the negative numbers between the others, so that those near 0 have short forms on both sides.
func fold(n int64) uint64 {
	z := uint64(n) << 1
	if n < 0 {
		return ^z // -2 n - 1, modulo 2^64
	}
	return z
}

func unfold(z uint64) int64 {
	n := int64(z >> 1)
	if z&1 == 1 {
		return ^n // -n - 1
	}
	return n
}
