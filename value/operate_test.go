package value_test

import (
	"math"
	"math/big"
	"testing"

	"refrain/api"
	"refrain/value"
)

func TestUnary(t *testing.T) {
	for _, n := range []int64{0, 1, -1, 5, -12, 1 << 62, math.MaxInt64, math.MinInt64 + 1, math.MinInt64} {
		want := number(wrapped(new(big.Int).Neg(big.NewInt(n))))
		if v, err := value.Unary(api.ONeg, number(n)); v != want || err != api.OK {
			t.Errorf("P1.5: the opposite of %d = %v, %d", n, v, err)
		}
	}
	for _, b := range []bool{false, true} {
		if v, err := value.Unary(api.ONot, truth(b)); v != truth(!b) || err != api.OK {
			t.Errorf("P1.5: not %v = %v, %d", b, v, err)
		}
	}
}

// noOperation holds the numbers that are of no operation.
func noOperation() []int {
	return []int{math.MinInt64, -13, -2, -1, 0, api.OOr + 1, 15, 255, 256 + api.OAdd, 1<<32 + api.ONeg, math.MaxInt64}
}

func TestUnaryRefuses(t *testing.T) {
	refused := func(op int, v api.Value, want api.Errno) {
		t.Helper()
		if w, err := value.Unary(op, v); w != (api.Value{}) || err != want {
			t.Errorf("P1.5: Unary(%d, %v) = %v, %d, want %d", op, v, w, err, want)
		}
	}
	ops := noOperation()
	for op := api.OAdd; op <= api.OOr; op++ {
		ops = append(ops, op)
	}
	for _, v := range append(rising(), broken()...) {
		for _, op := range ops {
			refused(op, v, api.ErrOp)
		}
		switch {
		case !value.Valid(v):
			refused(api.ONeg, v, api.ErrValue)
			refused(api.ONot, v, api.ErrValue)
		case v.Kind == api.KInt:
			refused(api.ONot, v, api.ErrKind)
		case v.Kind == api.KStr:
			refused(api.ONeg, v, api.ErrKind)
			refused(api.ONot, v, api.ErrKind)
		case v.Kind == api.KBool:
			refused(api.ONeg, v, api.ErrKind)
		}
	}
}

// wrapped is the number of 64 bits that differs from n by a multiple of 2^64.
func wrapped(n *big.Int) int64 {
	all := new(big.Int).Lsh(big.NewInt(1), 64)
	half := new(big.Int).Lsh(big.NewInt(1), 63)
	n = new(big.Int).Mod(n, all)
	if n.Cmp(half) >= 0 {
		n.Sub(n, all)
	}
	return n.Int64()
}

func TestBinaryReckons(t *testing.T) {
	row := []int64{math.MinInt64, math.MinInt64 + 1, -1 << 62, -1 << 32, -3, -1, 0, 1, 2, 7, 1<<32 + 1, 1 << 62, math.MaxInt64 - 1, math.MaxInt64}
	for _, a := range row {
		for _, b := range row {
			x, y := big.NewInt(a), big.NewInt(b)
			for op, exact := range map[int]*big.Int{
				api.OAdd: new(big.Int).Add(x, y),
				api.OSub: new(big.Int).Sub(x, y),
				api.OMul: new(big.Int).Mul(x, y),
			} {
				want := number(wrapped(exact))
				if v, err := value.Binary(op, number(a), number(b)); v != want || err != api.OK {
					t.Errorf("P1.6: Binary(%d, %d, %d) = %v, %d, want %v", op, a, b, v, err, want)
				}
			}
		}
	}
}

func TestBinaryCompares(t *testing.T) {
	row := rising()
	for i, a := range row {
		for j, b := range row {
			if a.Kind != b.Kind {
				continue
			}
			want := map[int]bool{api.OEq: i == j, api.ONe: i != j}
			if a.Kind != api.KBool {
				want[api.OLt], want[api.OLe], want[api.OGt], want[api.OGe] = i < j, i <= j, i > j, i >= j
			}
			for op, is := range want {
				if v, err := value.Binary(op, a, b); v != truth(is) || err != api.OK {
					t.Errorf("P1.6: Binary(%d, %v, %v) = %v, %d, want %v", op, a, b, v, err, is)
				}
			}
		}
	}
}

func TestBinaryJoins(t *testing.T) {
	for _, a := range []bool{false, true} {
		for _, b := range []bool{false, true} {
			if v, err := value.Binary(api.OAnd, truth(a), truth(b)); v != truth(a && b) || err != api.OK {
				t.Errorf("P1.6: %v and %v = %v, %d", a, b, v, err)
			}
			if v, err := value.Binary(api.OOr, truth(a), truth(b)); v != truth(a || b) || err != api.OK {
				t.Errorf("P1.6: %v or %v = %v, %d", a, b, v, err)
			}
		}
	}
}

// wants tells whether an operation on two values is one of values of this kind.
func wants(op, kind int) bool {
	switch op {
	case api.OAdd, api.OSub, api.OMul:
		return kind == api.KInt
	case api.OEq, api.ONe:
		return true
	case api.OAnd, api.OOr:
		return kind == api.KBool
	}
	return kind != api.KBool
}

func TestBinaryRefuses(t *testing.T) {
	refused := func(op int, a, b api.Value, want api.Errno) {
		t.Helper()
		if v, err := value.Binary(op, a, b); v != (api.Value{}) || err != want {
			t.Errorf("P1.6: Binary(%d, %v, %v) = %v, %d, want %d", op, a, b, v, err, want)
		}
	}
	ops := append(noOperation(), api.ONeg, api.ONot)
	values := append(rising(), broken()...)
	for _, a := range values {
		for _, b := range values {
			for _, op := range ops {
				refused(op, a, b, api.ErrOp)
			}
			for op := api.OAdd; op <= api.OOr; op++ {
				switch {
				case !value.Valid(a) || !value.Valid(b):
					refused(op, a, b, api.ErrValue)
				case a.Kind != b.Kind || !wants(op, a.Kind):
					refused(op, a, b, api.ErrKind)
				}
			}
		}
	}
}
