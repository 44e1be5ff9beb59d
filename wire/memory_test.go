package wire_test

import (
	"bytes"
	"slices"
	"testing"

	"refrain/api"
	"refrain/wire"
)

// roomy gives a copy of the bytes with spare room behind them, and a look at all of it.
func roomy(b []byte) (part, whole []byte) {
	whole = append(slices.Clone(b), bytes.Repeat([]byte{0xaa}, 64)...)
	return whole[:len(b)], whole
}

// spoil writes into a list and its spare room.
func spoil[T any](list []T) {
	clear(list[:cap(list)])
}

func TestReadingChangesNothing(t *testing.T) {
	batch, _ := wire.Pack(tick(), tick())
	for _, b := range [][]byte{raw("8001"), raw("80"), raw(tickForm), raw("0254 01"), batch, summed(raw("01")), nil} {
		part, whole := roomy(b)
		before := slices.Clone(whole)
		wire.Int(part)
		wire.Decode(part)
		wire.Unpack(part)
		if !bytes.Equal(whole, before) {
			t.Errorf("P3.10: %x was changed: %x", before, whole)
		}
	}
}

func TestWritingChangesNothing(t *testing.T) {
	vals := []api.Value{number(1), text("b"), truth(true), text("spare")}
	list := []api.Event{event("T", 1, vals[:2]...), event("U", 2, vals[:3]...), event("Spare", 3)}
	wasVals, wasList := slices.Clone(vals), slices.Clone(list)
	for _, n := range []int{0, 1, 2} {
		wire.Pack(list[:n]...)
		wire.Encode(list[n])
		if !slices.Equal(vals, wasVals) || !sameList(list, wasList) {
			t.Errorf("P3.10: what was handed in was changed: %+v, %+v", vals, list)
		}
	}
}

// apart sees that an answer stays as it is when another one is asked for and written into.
func apart(t *testing.T, call string, first, second func() []byte) {
	t.Helper()
	a := first()
	was := slices.Clone(a)
	b := second()
	if !bytes.Equal(a, was) {
		t.Errorf("P3.10: %s: a later call changed the answer %x to %x", call, was, a)
	}
	spoil(b)
	if !bytes.Equal(a, was) {
		t.Errorf("P3.10: %s: two answers share memory: %x became %x", call, was, a)
	}
	if c := first(); !bytes.Equal(c, was) {
		t.Errorf("P3.10: %s: what was written into an answer is in a later one: %x became %x", call, was, c)
	}
}

func TestBytesAreNewMemory(t *testing.T) {
	put := func(n int64) func() []byte {
		return func() []byte { return wire.PutInt(n) }
	}
	encode := func(e api.Event) func() []byte {
		return func() []byte { b, _ := wire.Encode(e); return b }
	}
	pack := func(es ...api.Event) func() []byte {
		return func() []byte { b, _ := wire.Pack(es...); return b }
	}
	for _, n := range []int64{0, 1, -1, 1 << 40} {
		apart(t, "PutInt", put(n), put(n))
		apart(t, "PutInt", put(n), put(n+1))
	}
	for _, e := range []api.Event{tick(), event("T", 0), wide(16)} {
		apart(t, "Encode", encode(e), encode(e))
		apart(t, "Encode", encode(e), encode(event("Other", 9, number(8))))
		apart(t, "Pack", pack(e), pack(e))
		apart(t, "Pack", pack(e), pack(event("Other", 9, number(8)), e))
	}
	apart(t, "Pack", pack(), pack())
}

func TestDecodedIsNewMemory(t *testing.T) {
	part, whole := roomy(raw(tickForm))
	a, _, _ := wire.Decode(part)
	b, _, _ := wire.Decode(part)
	spoil(whole)
	if !same(a, tick()) || !same(b, tick()) {
		t.Errorf("P3.10: Decode's answer hangs on bytes that changed behind it: %+v", a)
	}
	spoil(a.Vals)
	if !same(b, tick()) {
		t.Errorf("P3.10: two answers of Decode share memory: %+v", b)
	}
	if c, _, _ := wire.Decode(raw(tickForm)); !same(c, tick()) {
		t.Errorf("P3.10: what was written into an answer of Decode is in a later one: %+v", c)
	}
}

func TestUnpackedIsNewMemory(t *testing.T) {
	es := []api.Event{tick(), event("Empty", 1), tick(), event("One", 2, truth(true)), tick()}
	part, whole := roomy(batchForm(es))
	a, _ := wire.Unpack(part)
	b, _ := wire.Unpack(part)
	spoil(whole)
	if !sameList(a, es) || !sameList(b, es) {
		t.Errorf("P3.10: Unpack's answer hangs on bytes that changed behind it: %+v", a)
	}
	// No list of an answer reaches into another one, with its spare room neither.
	for i := range a {
		_ = append(a[i].Vals, number(99), number(99), number(99))
		spoil(a[i].Vals)
		for j := i + 1; j < len(a); j++ {
			if !same(a[j], es[j]) {
				t.Fatalf("P0.3: the values of events %d and %d share memory: %+v", i, j, a[j])
			}
		}
	}
	spoil(a)
	if !sameList(b, es) {
		t.Errorf("P3.10: two answers of Unpack share memory: %+v", b)
	}
}

// TestNothingIsKept asks the same behind calls of all kinds.
func TestNothingIsKept(t *testing.T) {
	batch := batchForm([]api.Event{tick()})
	for range 3 {
		wire.Unpack(raw("0000010002"))
		wire.Pack(event("INT", 0))
		wire.Decode(raw("00"))
		wire.Int(raw("8000"))
		decodes(t, raw(tickForm), tick(), 15, api.OK)
		readsInt(t, raw("8001"), 64, 2, api.OK)
		if es, err := wire.Unpack(batch); !sameList(es, []api.Event{tick()}) || err != api.OK {
			t.Errorf("P3.10: Unpack = %+v, %d", es, err)
		}
		if b, err := wire.Pack(tick()); !bytes.Equal(b, batch) || err != api.OK {
			t.Errorf("P3.10: Pack = %x, %d", b, err)
		}
	}
}
