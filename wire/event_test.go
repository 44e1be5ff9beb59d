package wire_test

import (
	"bytes"
	"encoding/hex"
	"math"
	"slices"
	"strings"
	"testing"

	"refrain/api"
	"refrain/schema"
	"refrain/wire"
)

// raw gives the bytes that are written in hex.
func raw(s string) []byte {
	b, err := hex.DecodeString(strings.ReplaceAll(s, " ", ""))
	if err != nil {
		panic(err)
	}
	return b
}

func number(n int64) api.Value { return api.Value{Kind: api.KInt, Int: n} }

func text(s string) api.Value { return api.Value{Kind: api.KStr, Str: s} }

func truth(b bool) api.Value { return api.Value{Kind: api.KBool, Bool: b} }

const tickForm = "085469636b0a060118020461620301"

func tick() api.Event { return event("Tick", 5, number(12), text("ab"), truth(true)) }

func event(name string, time int64, vals ...api.Value) api.Event {
	return api.Event{Type: name, Time: time, Vals: vals}
}

func same(a, b api.Event) bool {
	return a.Type == b.Type && a.Time == b.Time && slices.Equal(a.Vals, b.Vals)
}

func sameList(a, b []api.Event) bool { return slices.EqualFunc(a, b, same) }

// wide gives an event with so many values, all of them as long as may be.
func wide(vals int) api.Event {
	return event(strings.Repeat("W", 32), api.MaxTime, slices.Repeat([]api.Value{text(strings.Repeat("\xff", 256))}, vals)...)
}

// events gives some that have a form, with all edges.
func events() []api.Event {
	every := make([]byte, 256)
	for i := range every {
		every[i] = byte(i)
	}
	list := []api.Event{
		tick(), event("T", 0), event("_", api.MaxTime), event("time", 1), event("type", 63), event("T", 64), event("SEQ_", 1<<40),
		event("T", 1, number(0), text(""), truth(false)), event("T", 1, truth(true), truth(false)), event("T", 1, text("\x00"), text("\""), text("é")),
		event("T", 1, text(string(every))), event("T", 1, text(strings.Repeat("s", 63)), text(strings.Repeat("s", 64))),
		event(strings.Repeat("n", 32), 2, slices.Repeat([]api.Value{truth(false)}, 16)...), wide(16), wide(15), wide(1), wide(0),
	}
	for _, n := range numbers() {
		list = append(list, event("N", n&math.MaxInt64%(api.MaxTime+1), number(n)))
	}
	return list
}

// eventForm writes an event's form by the document's words.
func eventForm(e api.Event) []byte {
	b := slices.Concat(formOf(int64(len(e.Type))), []byte(e.Type), formOf(e.Time), formOf(int64(len(e.Vals))))
	for _, v := range e.Vals {
		b = append(b, byte(v.Kind))
		switch v.Kind {
		case api.KInt:
			b = append(b, formOf(v.Int)...)
		case api.KStr:
			b = append(append(b, formOf(int64(len(v.Str)))...), v.Str...)
		default:
			b = append(b, map[bool]byte{false: 0, true: 1}[v.Bool])
		}
	}
	return b
}

// model reads events in another way than the program: it keeps its place in all the bytes and gives up by panic.
type model struct {
	bytes []byte
	at    int
}

// want gives up with the error, if a thing does not hold.
func want(holds bool, err api.Errno) {
	if !holds {
		panic(err)
	}
}

func (m *model) number(least, most int64) int64 {
	n, size, err := readForm(m.bytes[m.at:])
	want(err == api.OK, err)
	want(n >= least && n <= most, api.ErrBytes)
	m.at += size
	return n
}

func (m *model) some(length int64) string {
	want(int64(len(m.bytes)-m.at) >= length, api.ErrShort)
	m.at += int(length)
	return string(m.bytes[m.at-int(length) : m.at])
}

func (m *model) event() api.Event {
	e := api.Event{Type: m.some(m.number(1, 32))}
	want(schema.Name(e.Type), api.ErrBytes)
	e.Time = m.number(0, 1<<62)
	for range m.number(0, 16) {
		v := api.Value{Kind: int(m.some(1)[0])}
		want(v.Kind >= 1 && v.Kind <= 3, api.ErrBytes)
		switch v.Kind {
		case 1:
			v.Int = m.number(math.MinInt64, math.MaxInt64)
		case 2:
			v.Str = m.some(m.number(0, 256))
		case 3:
			x := m.some(1)[0]
			want(x <= 1, api.ErrBytes)
			v.Bool = x == 1
		}
		e.Vals = append(e.Vals, v)
	}
	return e
}

// modelDecode is what Decode is to answer.
func modelDecode(b []byte) (e api.Event, size int, err api.Errno) {
	defer func() {
		if fault, ok := recover().(api.Errno); ok {
			e, size, err = api.Event{}, 0, fault
		}
	}()
	m := model{bytes: b}
	e = m.event()
	return e, m.at, api.OK
}

// decodes holds Decode against the event, the length and the error that bytes are to give, and, if it is one, the event's form against the bytes.
func decodes(t *testing.T, b []byte, e api.Event, size int, fault api.Errno) {
	t.Helper()
	x, k, err := wire.Decode(b)
	if !same(x, e) || k != size || err != fault || err != api.OK && x.Vals != nil {
		t.Errorf("P3.4: Decode(%.100x) = %+v, %d, %d, want %+v, %d, %d", b, x, k, err, e, size, fault)
		return
	}
	if err != api.OK {
		return
	}
	if form, err := wire.Encode(x); !bytes.Equal(form, b[:k]) || err != api.OK {
		t.Errorf("P3.5: Decode(%.100x) = %+v, whose form is %x, %d", b, x, form, err)
	}
}

func TestEncode(t *testing.T) {
	for _, x := range []struct {
		e    api.Event
		want string
	}{
		{tick(), tickForm},
		{event("T", 0), "02 54 00 00"},
		{api.Event{Type: "T", Vals: []api.Value{}}, "02 54 00 00"},
		{event("T", 64, number(-65)), "02 54 8001 02 01 8101"},
		{event("T", api.MaxTime, text(""), truth(false), number(0)), "02 54 80808080808080808001 06 0200 0300 0100"},
		{event("T", 1, text("\x00\xff"), number(1), truth(true), number(math.MinInt64)), "02 54 02 08 020400ff 0102 0301 01ffffffffffffffffff01"},
	} {
		if b, err := wire.Encode(x.e); !bytes.Equal(b, raw(x.want)) || err != api.OK {
			t.Errorf("P3.3: Encode(%+v) = %x, %d, want %s", x.e, b, err, x.want)
		}
	}
	for _, e := range events() {
		if b, err := wire.Encode(e); !bytes.Equal(b, eventForm(e)) || err != api.OK {
			t.Errorf("P3.3: Encode(%.100v) = %.100x, %d, want %.100x", e, b, err, eventForm(e))
		}
	}
}

// wrong is an event that has no form, and why.
type wrong struct {
	e   api.Event
	err api.Errno
}

func wrongEvents() []wrong {
	list := []wrong{{api.Event{}, api.ErrName}}
	for _, name := range []string{"", "INT", "SEQ", "9", "a-b", "é", "\xff", " T", strings.Repeat("T", 33), strings.Repeat("T", 1<<20)} {
		for _, e := range []api.Event{event(name, 5, number(12)), event(name, -1), event(name, 5, make([]api.Value, 17)...), event(name, 5, api.Value{})} {
			list = append(list, wrong{e, api.ErrName})
		}
	}
	for _, time := range []int64{-1, math.MinInt64, -1 << 62, api.MaxTime + 1, math.MaxInt64} {
		for _, e := range []api.Event{event("T", time), event("T", time, make([]api.Value, 17)...), event("T", time, api.Value{})} {
			list = append(list, wrong{e, api.ErrTime})
		}
	}
	for _, vals := range [][]api.Value{slices.Repeat([]api.Value{number(1)}, 17), make([]api.Value, 17), make([]api.Value, 1000)} {
		list = append(list, wrong{event("T", 0, vals...), api.ErrLong})
	}
	for _, v := range []api.Value{
		{}, {Kind: 4}, {Kind: -1}, {Kind: 256 + api.KInt}, {Kind: 1<<32 + api.KStr}, {Kind: math.MinInt64},
		{Kind: api.KInt, Str: "x"}, {Kind: api.KInt, Int: 1, Bool: true}, {Kind: api.KStr, Int: 1}, {Kind: api.KStr, Bool: true}, {Kind: api.KBool, Int: 1}, {Kind: api.KBool, Str: "x"}, {Str: "x"},
		text(strings.Repeat("x", 257)), text(strings.Repeat("x", 1<<20)),
	} {
		last := append(slices.Repeat([]api.Value{number(1)}, 15), v)
		for _, vals := range [][]api.Value{{v}, {v, number(1)}, last} {
			list = append(list, wrong{event("T", api.MaxTime, vals...), api.ErrValue})
		}
	}
	return list
}

func TestEncodeFaults(t *testing.T) {
	for _, w := range wrongEvents() {
		if b, err := wire.Encode(w.e); len(b) != 0 || err != w.err {
			t.Errorf("P3.3: Encode(%.100v) = %x, %d, want %d", w.e, b, err, w.err)
		}
	}
}

// TestOneFormOfEvents reads each event's form: whole, with bytes behind it, and each of its beginnings.
func TestOneFormOfEvents(t *testing.T) {
	for _, e := range events() {
		b, _ := wire.Encode(e)
		for _, behind := range []string{"", "00", "01", "80", "ff", "03", tickForm} {
			decodes(t, slices.Concat(b, raw(behind)), e, len(b), api.OK)
		}
		for i := range b {
			decodes(t, b[:i], api.Event{}, 0, api.ErrShort)
		}
	}
}

func TestDecodeFaults(t *testing.T) {
	for _, x := range []struct {
		bytes string
		err   api.Errno
	}{
		{"", api.ErrShort}, {"80", api.ErrShort}, {"8000", api.ErrBytes}, {"ffffffffffffffffff02", api.ErrBytes},
		// The name's length: 0, -1, 33, 2^31, -2^63; then not all its bytes; then 1 and 32, which may be.
		{"00", api.ErrBytes}, {"01", api.ErrBytes}, {"0054", api.ErrBytes}, {"42", api.ErrBytes}, {"8080808020", api.ErrBytes}, {"ffffffffffffffffff01", api.ErrBytes},
		{"02", api.ErrShort}, {"40", api.ErrShort}, {"085469", api.ErrShort}, {"063961", api.ErrShort}, {"06494e", api.ErrShort}, {"02540000", api.OK},
		// The name itself.
		{"0239", api.ErrBytes}, {"0239 80", api.ErrBytes}, {"06494e54", api.ErrBytes}, {"06534551 01", api.ErrBytes}, {"0220", api.ErrBytes}, {"02ff", api.ErrBytes}, {"0200", api.ErrBytes}, {"04c3a9", api.ErrBytes},
		// The time: none, not all of it, -1, 2^62 + 1, -2^63, longer than needed; then 2^62, which may be.
		{"0254", api.ErrShort}, {"0254 80", api.ErrShort}, {"0254 01", api.ErrBytes}, {"0254 82808080808080808001", api.ErrBytes}, {"0254 ffffffffffffffffff01", api.ErrBytes}, {"0254 8000", api.ErrBytes}, {"0254 80808080808080808002", api.ErrBytes}, {"0254 80808080808080808001 00", api.OK},
		// How many values: none told, -1, 17, 2^62, longer than needed.
		{"0254 00", api.ErrShort}, {"0254 00 80", api.ErrShort}, {"0254 00 01", api.ErrBytes}, {"0254 00 22", api.ErrBytes}, {"0254 00 80808080808080808001", api.ErrBytes}, {"0254 00 8000", api.ErrBytes}, {"0254 00 20", api.ErrShort},
		// A kind: none, 0, 4, 255.
		{"0254 00 02", api.ErrShort}, {"0254 00 02 00", api.ErrBytes}, {"0254 00 02 04", api.ErrBytes}, {"0254 00 02 ff", api.ErrBytes}, {"0254 00 02 81", api.ErrBytes}, {"0254 00 04 0100", api.ErrShort}, {"0254 00 04 0100 00", api.ErrBytes},
		// A number.
		{"0254 00 02 01", api.ErrShort}, {"0254 00 02 01 ff", api.ErrShort}, {"0254 00 02 01 8000", api.ErrBytes}, {"0254 00 02 01 ffffffffffffffffff02", api.ErrBytes}, {"0254 00 02 01 ffffffffffffffffff01", api.OK},
		// A string: no length, -1, 257, -2^63, 2^62, longer than needed, not all its bytes.
		{"0254 00 02 02", api.ErrShort}, {"0254 00 02 02 01", api.ErrBytes}, {"0254 00 02 02 8204", api.ErrBytes}, {"0254 00 02 02 ffffffffffffffffff01", api.ErrBytes}, {"0254 00 02 02 80808080808080808001", api.ErrBytes}, {"0254 00 02 02 8000", api.ErrBytes}, {"0254 00 02 02 8004", api.ErrShort}, {"0254 00 02 02 02", api.ErrShort}, {"0254 00 02 02 00", api.OK},
		// A truth value: none, 2, 255.
		{"0254 00 02 03", api.ErrShort}, {"0254 00 02 03 02", api.ErrBytes}, {"0254 00 02 03 ff", api.ErrBytes}, {"0254 00 02 03 81", api.ErrBytes}, {"0254 00 04 03 02", api.ErrBytes}, {"0254 00 02 03 01", api.OK},
		// Two faults: the first one decides.
		{"0239 01", api.ErrBytes}, {"0254 01 22", api.ErrBytes}, {"0254 00 04 0302 04", api.ErrBytes}, {"42 54", api.ErrBytes}, {"0254 00 04 03 02", api.ErrBytes}, {"0254 00 02 8000", api.ErrBytes},
	} {
		b := raw(x.bytes)
		if e, size, err := wire.Decode(b); err != x.err || err != api.OK && (size != 0 || !same(e, api.Event{})) || err == api.OK && size != len(b) {
			t.Errorf("P3.4: Decode(%s) = %+v, %d, %d, want %d", x.bytes, e, size, err, x.err)
		}
	}
	decodes(t, nil, api.Event{}, 0, api.ErrShort)
	decodes(t, make([]byte, 1<<20), api.Event{}, 0, api.ErrBytes)
}

// TestDecodeEdges reads an event with each of its lengths and numbers at their bounds and one beyond.
func TestDecodeEdges(t *testing.T) {
	form := func(name, str, vals int, time int64) []byte {
		b := slices.Concat(formOf(int64(name)), bytes.Repeat([]byte{'n'}, name), formOf(time), formOf(int64(vals)))
		for range vals {
			b = slices.Concat(b, []byte{2}, formOf(int64(str)), bytes.Repeat([]byte{'s'}, str))
		}
		return b
	}
	for _, x := range []struct {
		name, str, vals int
		time            int64
		err             api.Errno
	}{
		{1, 0, 1, 0, api.OK}, {32, 256, 16, 1 << 62, api.OK}, {32, 0, 0, 1, api.OK},
		{0, 0, 1, 0, api.ErrBytes}, {33, 256, 16, 1 << 62, api.ErrBytes}, {32, 257, 16, 1 << 62, api.ErrBytes}, {32, 256, 17, 1 << 62, api.ErrBytes}, {32, 256, 16, 1<<62 + 1, api.ErrBytes}, {32, 256, 16, -1, api.ErrBytes},
	} {
		b := form(x.name, x.str, x.vals, x.time)
		e, size, err := modelDecode(b)
		if err != x.err {
			t.Fatalf("P3.4: the model's error of %+v is %d", x, err)
		}
		decodes(t, b, e, size, err)
	}
}

// TestDecodeOtherBytes puts every byte at every place of some forms, ahead of it too, and takes bytes out.
func TestDecodeOtherBytes(t *testing.T) {
	for _, e := range []api.Event{tick(), event("T", 0), event("Long_name9", 1<<40, truth(false), text(strings.Repeat("s", 70)), number(-1<<40), text("")), event("E", 1, number(math.MinInt64), number(math.MaxInt64))} {
		b, _ := wire.Encode(e)
		for at := range b {
			others := [][]byte{slices.Delete(slices.Clone(b), at, at+1), slices.Delete(slices.Clone(b), at, min(at+2, len(b)))}
			for c := range 256 {
				other := slices.Clone(b)
				other[at] = byte(c)
				others = append(others, other, slices.Insert(slices.Clone(b), at, byte(c)))
			}
			for _, other := range others {
				x, size, err := modelDecode(other)
				decodes(t, other, x, size, err)
			}
		}
	}
}

// TestDecodeAllShortBytes holds Decode against the model over all short rows of some bytes, behind some beginnings.
func TestDecodeAllShortBytes(t *testing.T) {
	pieces := raw("00 01 02 03 04 20 22 42 54 7f 80 81 ff")
	var try func(b []byte, more int)
	try = func(b []byte, more int) {
		e, size, err := modelDecode(b)
		decodes(t, b, e, size, err)
		for i := 0; more > 0 && i < len(pieces); i++ {
			try(append(slices.Clip(b), pieces[i]), more-1)
		}
	}
	for _, begin := range []string{"", "0254", "0254 0004", "0254 00 06 0202", "0254 00 04 0301 01ffffffffffffffffff"} {
		try(raw(begin), 4)
	}
}
