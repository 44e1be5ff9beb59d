package wire

const (
	sumSize = 4
	modulus = 65521
)

// sum tells the bytes by which damage to those ahead of it is seen (Adler-32).
func sum(b []byte) [sumSize]byte {
	p, q := 1, 0
	for _, x := range b {
		p = (p + int(x)) % modulus
		q = (q + p) % modulus
	}
	return [sumSize]byte{byte(q >> 8), byte(q), byte(p >> 8), byte(p)}
}
