package wire_test

import (
	"bytes"
	"math"
	"math/big"
	"math/bits"
	"slices"
	"testing"

	"refrain/api"
	"refrain/wire"
)

// numbers gives some near 0, those about each power of two, and the outermost ones.
func numbers() []int64 {
	var list []int64
	for n := int64(-300); n <= 300; n++ {
		list = append(list, n)
	}
	for i := range 63 {
		for d := int64(-2); d <= 2; d++ {
			list = append(list, 1<<i+d, -1<<i+d)
		}
	}
	for d := range int64(3) {
		list = append(list, math.MaxInt64-d, math.MinInt64+d)
	}
	return append(list, 0x0123456789abcdef, -0x0123456789abcdef)
}

// formOf writes a number's form by the document's words, over numbers of any size.
func formOf(n int64) []byte {
	z := new(big.Int).Mul(big.NewInt(2), big.NewInt(n))
	if n < 0 {
		z.Sub(z.Neg(z), big.NewInt(1))
	}
	var groups []byte
	for {
		group := new(big.Int)
		z.DivMod(z, big.NewInt(128), group)
		groups = append(groups, byte(group.Int64()))
		if z.Sign() == 0 {
			break
		}
	}
	for i := range len(groups) - 1 {
		groups[i] += 128
	}
	return groups
}

// readForm reads a number by the document's words, over numbers of any size.
func readForm(b []byte) (int64, int, api.Errno) {
	z := new(big.Int)
	for i := 0; ; i++ {
		switch {
		case i >= len(b):
			return 0, 0, api.ErrShort
		case i == 9 && b[i] > 1:
			return 0, 0, api.ErrBytes
		}
		group := big.NewInt(int64(b[i] % 128))
		z.Add(z, group.Lsh(group, uint(7*i)))
		switch {
		case b[i] >= 128:
		case b[i] == 0 && i > 0:
			return 0, 0, api.ErrBytes
		case z.Bit(0) == 0:
			return z.Rsh(z, 1).Int64(), i + 1, api.OK
		default:
			z.Add(z, big.NewInt(1))
			return z.Neg(z.Rsh(z, 1)).Int64(), i + 1, api.OK
		}
	}
}

// readsInt holds Int against the number, the length and the error that bytes are to give, and, if it is one, the number's form against the bytes.
func readsInt(t *testing.T, b []byte, n int64, size int, fault api.Errno) {
	t.Helper()
	m, k, err := wire.Int(b)
	if m != n || k != size || err != fault {
		t.Errorf("P3.2: Int(%x) = %d, %d, %d, want %d, %d, %d", b, m, k, err, n, size, fault)
		return
	}
	if err != api.OK {
		return
	}
	if form := wire.PutInt(m); !bytes.Equal(form, b[:k]) {
		t.Errorf("P3.5: Int(%x) = %d, whose form is %x", b, m, form)
	}
}

func TestPutIntExamples(t *testing.T) {
	for _, x := range []struct {
		n    int64
		want string
	}{
		{0, "00"}, {-1, "01"}, {1, "02"}, {63, "7e"}, {-64, "7f"}, {64, "8001"}, {-65, "8101"},
		{8191, "fe7f"}, {-8192, "ff7f"}, {8192, "808001"}, {-8193, "818001"}, {300, "d804"},
		{1 << 62, "80808080808080808001"}, {-1 << 62, "ffffffffffffffff7f"}, {1<<62 - 1, "feffffffffffffff7f"}, {-1<<62 - 1, "81808080808080808001"},
		{math.MaxInt64, "feffffffffffffffff01"}, {math.MinInt64, "ffffffffffffffffff01"},
	} {
		if b := wire.PutInt(x.n); !bytes.Equal(b, raw(x.want)) {
			t.Errorf("P3.1: PutInt(%d) = %x, want %s", x.n, b, x.want)
		}
	}
}

func TestPutIntIsTheForm(t *testing.T) {
	for _, n := range numbers() {
		b, want := wire.PutInt(n), formOf(n)
		if !bytes.Equal(b, want) {
			t.Errorf("P3.1: PutInt(%d) = %x, want %x", n, b, want)
		}
		z := uint64(n) << 1
		if n < 0 {
			z = ^z
		}
		if size := max(1, (bits.Len64(z)+6)/7); len(b) != size {
			t.Errorf("P3.1: PutInt(%d) has %d bytes, want %d", n, len(b), size)
		}
	}
}

// TestOneFormOfNumbers reads each number's form: whole, with bytes behind it, and each of its beginnings.
func TestOneFormOfNumbers(t *testing.T) {
	for _, n := range numbers() {
		b := wire.PutInt(n)
		for _, behind := range []string{"", "00", "01", "7f", "80", "ff", "ffffffffffffffffffffff", "80000000000000000000"} {
			readsInt(t, slices.Concat(b, raw(behind)), n, len(b), api.OK)
		}
		for i := range b {
			readsInt(t, b[:i], 0, 0, api.ErrShort)
		}
	}
}

func TestIntFaults(t *testing.T) {
	for _, x := range []struct {
		bytes string
		err   api.Errno
	}{
		{"", api.ErrShort}, {"80", api.ErrShort}, {"ff", api.ErrShort}, {"8080", api.ErrShort}, {"ffffffffffffffffff", api.ErrShort}, {"808080808080808080", api.ErrShort},
		{"8000", api.ErrBytes}, {"8100", api.ErrBytes}, {"ff00", api.ErrBytes}, {"ff8000", api.ErrBytes}, {"80808080808080808000", api.ErrBytes}, {"ffffffffffffffff00", api.ErrBytes}, {"800001", api.ErrBytes},
		{"ffffffffffffffffff02", api.ErrBytes}, {"80808080808080808002", api.ErrBytes}, {"ffffffffffffffffff7f", api.ErrBytes}, {"ffffffffffffffffff80", api.ErrBytes}, {"ffffffffffffffffff81", api.ErrBytes},
		{"ffffffffffffffffffff", api.ErrBytes}, {"ffffffffffffffffffff01", api.ErrBytes}, {"8080808080808080808001", api.ErrBytes}, {"8080808080808080808000", api.ErrBytes},
	} {
		readsInt(t, raw(x.bytes), 0, 0, x.err)
	}
	readsInt(t, nil, 0, 0, api.ErrShort)
	readsInt(t, bytes.Repeat([]byte{0xff}, 1<<20), 0, 0, api.ErrBytes)
	readsInt(t, make([]byte, 1<<20), 0, 1, api.OK)
}

// TestIntAllShortBytes holds Int against the document's words over all short rows of bytes, behind some beginnings.
func TestIntAllShortBytes(t *testing.T) {
	tails := [][]byte{nil}
	for i := range 256 {
		tails = append(tails, []byte{byte(i)})
		for j := range 256 {
			tails = append(tails, []byte{byte(i), byte(j)})
		}
	}
	for _, begin := range []string{"", "80", "ff", "8180", "80ffff8080ff", "80808080808080", "ffffffffffffff", "8080808080808080", "ffffffffffffffff", "808080808080808080"} {
		for _, tail := range tails {
			b := slices.Concat(raw(begin), tail)
			n, size, err := readForm(b)
			readsInt(t, b, n, size, err)
		}
	}
}
