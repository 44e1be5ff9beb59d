package wire_test

import (
	"bytes"
	"encoding/binary"
	"hash/adler32"
	"slices"
	"strings"
	"testing"

	"refrain/api"
	"refrain/wire"
)

// summed gives the bytes with their right sum behind them.
func summed(b []byte) []byte {
	return binary.BigEndian.AppendUint32(slices.Clone(b), adler32.Checksum(b))
}

// batchForm writes a batch's form by the document's words.
func batchForm(es []api.Event) []byte {
	b := formOf(int64(len(es)))
	for _, e := range es {
		b = append(b, eventForm(e)...)
	}
	return summed(b)
}

// ofSize gives 1024 events whose batch has so many bytes.
func ofSize(t *testing.T, size int) []api.Event {
	t.Helper()
	str := text(strings.Repeat("s", 256))
	es := slices.Repeat([]api.Event{event("T", 0)}, 1024)
	left := size - (2 + 4*1024 + 4)
	for i := range es {
		for len(es[i].Vals) < 16 && left >= 3+256 {
			es[i].Vals = append(es[i].Vals, str)
			left -= 3 + 256
		}
	}
	for i := range left {
		es[i].Type = "TT"
	}
	if b := batchForm(es); len(b) != size {
		t.Fatalf("a batch of %d bytes has %d", size, len(b))
	}
	return es
}

// batches gives rows of events that have a form.
func batches() [][]api.Event {
	all := events()
	list := [][]api.Event{{}, {tick()}, {tick(), tick()}, {event("T", 9), event("U", 3), tick(), event("T", 9)}, slices.Repeat([]api.Event{tick()}, 63), slices.Repeat([]api.Event{tick()}, 64), slices.Repeat([]api.Event{event("T", 0)}, 1024), slices.Repeat([]api.Event{wide(16)}, 200)}
	return append(list, all[:20], all[:min(len(all), 1024)])
}

func TestPack(t *testing.T) {
	if b, err := wire.Pack(); !bytes.Equal(b, raw("0000010001")) || err != api.OK {
		t.Errorf("P3.6: Pack() = %x, %d", b, err)
	}
	if b, err := wire.Pack([]api.Event{}...); !bytes.Equal(b, raw("0000010001")) || err != api.OK {
		t.Errorf("P3.6: Pack of an empty list = %x, %d", b, err)
	}
	if b, err := wire.Pack(tick()); !bytes.Equal(b, raw("02"+tickForm+"17ed028c")) || err != api.OK {
		t.Errorf("P3.6: Pack(tick) = %x, %d", b, err)
	}
	for i, es := range batches() {
		if b, err := wire.Pack(es...); !bytes.Equal(b, batchForm(es)) || err != api.OK {
			t.Errorf("P3.6: row %d: Pack of %d events = %.100x, %d", i, len(es), b, err)
		}
	}
}

func TestPackFaults(t *testing.T) {
	refuses := func(err api.Errno, es ...api.Event) {
		t.Helper()
		if b, e := wire.Pack(es...); len(b) != 0 || e != err {
			t.Errorf("P3.6: Pack of %d events = %.100x, %d, want %d", len(es), b, e, err)
		}
	}
	late, bad := event("T", -1), event("T", 0, api.Value{})
	for _, w := range wrongEvents() {
		refuses(w.err, w.e)
		refuses(w.err, tick(), w.e, late)
		refuses(w.err, w.e, bad)
	}
	ticks := slices.Repeat([]api.Event{tick()}, 1025)
	refuses(api.ErrLong, ticks...)
	refuses(api.ErrLong, slices.Repeat([]api.Event{{}}, 1025)...)
	refuses(api.ErrLong, make([]api.Event, 100000)...)
	refuses(api.ErrTime, append(slices.Clone(ticks[:1023]), late)...)
	// Too many bytes are told only if each event has a form.
	wides := slices.Repeat([]api.Event{wide(16)}, 1024)
	refuses(api.ErrLong, wides...)
	refuses(api.ErrLong, wides[:300]...)
	refuses(api.ErrValue, append(slices.Clone(wides[:1023]), bad)...)
}

func TestBatchBounds(t *testing.T) {
	es := ofSize(t, 1<<20)
	b, err := wire.Pack(es...)
	if len(b) != 1<<20 || err != api.OK {
		t.Fatalf("P3.6: Pack of 2^20 bytes = %d bytes, %d", len(b), err)
	}
	if got, err := wire.Unpack(b); !sameList(got, es) || err != api.OK {
		t.Errorf("P3.7: Unpack of 2^20 bytes = %d events, %d", len(got), err)
	}
	es = ofSize(t, 1<<20+1)
	if b, err := wire.Pack(es...); len(b) != 0 || err != api.ErrLong {
		t.Errorf("P3.6: Pack of 2^20 + 1 bytes = %d bytes, %d", len(b), err)
	}
	if got, err := wire.Unpack(batchForm(es)); len(got) != 0 || err != api.ErrLong {
		t.Errorf("P3.7: Unpack of 2^20 + 1 bytes = %d events, %d", len(got), err)
	}
}

func TestUnpackFaults(t *testing.T) {
	many := bytes.Repeat(raw("02540000"), 1025)
	for _, x := range []struct {
		bytes []byte
		err   api.Errno
	}{
		{make([]byte, 1<<20+1), api.ErrLong}, {summed(make([]byte, 1<<20)), api.ErrLong}, {make([]byte, 1<<22), api.ErrLong},
		{nil, api.ErrShort}, {[]byte{}, api.ErrShort}, {raw("00"), api.ErrShort}, {raw("00000100"), api.ErrShort}, {raw("00000001"), api.ErrShort}, {summed(nil), api.ErrShort},
		{make([]byte, 5), api.ErrSum}, {make([]byte, 1<<20), api.ErrSum}, {raw("0000010002"), api.ErrSum}, {raw("8000010001"), api.ErrSum}, {raw("04" + tickForm + "17ed028c"), api.ErrSum}, {raw("0000010001 00"), api.ErrSum}, {raw("02" + tickForm + "028c17ed"), api.ErrSum},
		// How many events: not all of the number, longer than needed, -1, 1025, 2^62, -2^63.
		{summed(raw("80")), api.ErrShort}, {summed(raw("8000")), api.ErrBytes}, {summed(raw("ffffffffffffffffff02")), api.ErrBytes},
		{summed(raw("01")), api.ErrBytes}, {summed(append(raw("8210"), many...)), api.ErrBytes}, {summed(raw("8210")), api.ErrBytes}, {summed(raw("80808080808080808001")), api.ErrBytes}, {summed(raw("ffffffffffffffffff01")), api.ErrBytes},
		// Fewer events than told: what stands in the sum is no part of one.
		{summed(raw("02")), api.ErrShort}, {summed(raw("04" + tickForm)), api.ErrShort}, {summed(raw("8010")), api.ErrShort}, {summed(raw("02" + tickForm[:28])), api.ErrShort}, {summed(raw("02 0254 00")), api.ErrShort}, {summed(append(raw("8010"), many[:4*1023]...)), api.ErrShort},
		// A fault in an event: the first one decides.
		{summed(raw("04" + tickForm + "0254 01")), api.ErrBytes}, {summed(raw("04 0239 00 00" + tickForm)), api.ErrBytes}, {summed(raw("04 0254 00 02 0302" + "02")), api.ErrBytes}, {summed(raw("06 02540000 0254")), api.ErrShort}, {summed(raw("04 02540000 42")), api.ErrBytes},
		// Bytes left behind the last event.
		{summed(raw("0000")), api.ErrBytes}, {summed(raw("00" + tickForm)), api.ErrBytes}, {summed(raw("02" + tickForm + "00")), api.ErrBytes}, {summed(raw("02" + tickForm + tickForm)), api.ErrBytes}, {summed(raw("02" + tickForm + "80")), api.ErrBytes}, {summed(append(raw("8010"), many...)), api.ErrBytes},
		{summed(summed(raw("00"))), api.ErrBytes},
	} {
		if es, err := wire.Unpack(x.bytes); len(es) != 0 || err != x.err {
			t.Errorf("P3.7: Unpack(%.60x) = %.100v, %d, want %d", x.bytes, es, err, x.err)
		}
	}
	if es, err := wire.Unpack(summed(append(raw("8010"), many[:4*1024]...))); len(es) != 1024 || err != api.OK {
		t.Errorf("P3.7: Unpack of 1024 events = %d, %d", len(es), err)
	}
}

func TestOneFormOfBatches(t *testing.T) {
	for i, es := range batches() {
		b, _ := wire.Pack(es...)
		if got, err := wire.Unpack(b); !sameList(got, es) || err != api.OK {
			t.Errorf("P3.8: row %d: Unpack of Pack of %d events = %.200v, %d", i, len(es), got, err)
		}
	}
}

// modelUnpack is what Unpack is to answer of bytes with their right sum.
func modelUnpack(b []byte) (es []api.Event, err api.Errno) {
	defer func() {
		if fault, ok := recover().(api.Errno); ok {
			es, err = nil, fault
		}
	}()
	m := model{bytes: b}
	for range m.number(0, 1024) {
		es = append(es, m.event())
	}
	want(m.at == len(b), api.ErrBytes)
	return es, api.OK
}

// TestUnpackOtherBytes puts every byte at every place of some batches, with the right sum of what comes out.
func TestUnpackOtherBytes(t *testing.T) {
	for _, es := range [][]api.Event{{}, {tick()}, {event("T", 9), tick(), event("U", 3, text("x"))}} {
		body := batchForm(es)
		body = body[:len(body)-4]
		for at := range body {
			others := [][]byte{slices.Delete(slices.Clone(body), at, at+1)}
			for c := range 256 {
				other := slices.Clone(body)
				other[at] = byte(c)
				others = append(others, other, slices.Insert(slices.Clone(body), at, byte(c)))
			}
			for _, other := range others {
				unpacks(t, other)
			}
		}
	}
}

// unpacks holds Unpack against the model, over bytes without their sum.
func unpacks(t *testing.T, body []byte) {
	t.Helper()
	b := summed(body)
	es, err := modelUnpack(body)
	if len(b) < 5 {
		es, err = nil, api.ErrShort
	}
	got, e := wire.Unpack(b)
	if !sameList(got, es) || e != err {
		t.Errorf("P3.7: Unpack(%x) = %+v, %d, want %+v, %d", b, got, e, es, err)
		return
	}
	if err != api.OK {
		return
	}
	if form, e := wire.Pack(got...); !bytes.Equal(form, b) || e != api.OK {
		t.Errorf("P3.8: Unpack(%x) = %+v, whose form is %x, %d", b, got, form, e)
	}
}

// damaged tells of a wrong answer to damaged bytes.
func damaged(t *testing.T, b []byte, what string, at int) {
	t.Helper()
	if es, err := wire.Unpack(b); len(es) != 0 || err != api.ErrSum {
		t.Errorf("P3.9: %s at %d of %d: Unpack = %.100v, %d", what, at, len(b), es, err)
	}
}

// harm puts another byte at a place, and exchanges the bytes there and behind, and heals both.
func harm(t *testing.T, b []byte, at int, other byte) {
	t.Helper()
	was := b[at]
	if was != other {
		b[at] = other
		damaged(t, b, "another byte", at)
		b[at] = was
	}
	if at+5 < len(b) && b[at] != b[at+1] {
		b[at], b[at+1] = b[at+1], b[at]
		damaged(t, b, "bytes exchanged", at)
		b[at], b[at+1] = b[at+1], b[at]
	}
}

func TestDamage(t *testing.T) {
	for _, es := range [][]api.Event{{}, {tick()}, {event("T", 9), tick(), wide(1)}, slices.Repeat([]api.Event{tick()}, 64)} {
		b, _ := wire.Pack(es...)
		for at := range b {
			for c := range 256 {
				harm(t, b, at, byte(c))
			}
		}
	}
	b, _ := wire.Pack(ofSize(t, 1<<20)...)
	for at := 0; at < len(b); at += 40009 {
		harm(t, b, at, ^b[at])
	}
	for at := len(b) - 6; at < len(b); at++ {
		harm(t, b, at, b[at]+1)
		harm(t, b, at, b[at]+15) // 65521 is 15 below 2^16
	}
}

// TestSumOfManyBytes sees that the sum is reduced by 65521 in both its numbers.
func TestSumOfManyBytes(t *testing.T) {
	for _, n := range []int{1, 100, 200, 240} {
		es := slices.Repeat([]api.Event{wide(16)}, n)
		b, err := wire.Pack(es...)
		if !bytes.Equal(b, batchForm(es)) || err != api.OK {
			t.Errorf("P3.6: Pack of %d wide events has the sum %x, %d", n, b[len(b)-4:], err)
		}
	}
}
