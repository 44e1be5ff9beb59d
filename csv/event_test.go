package csv_test

import (
	"math"
	"math/big"
	"regexp"
	"slices"
	"strconv"
	"strings"
	"testing"

	"refrain/api"
	"refrain/csv"
)

func number(n int64) api.Value { return api.Value{Kind: api.KInt, Int: n} }

func text(s string) api.Value { return api.Value{Kind: api.KStr, Str: s} }

func truth(b bool) api.Value { return api.Value{Kind: api.KBool, Bool: b} }

func event(name string, time int64, vals ...api.Value) api.Event {
	return api.Event{Type: name, Time: time, Vals: vals}
}

// typed gives a type with attributes of these kinds.
func typed(name string, kinds ...int) api.Type {
	t := api.Type{Name: name}
	for i, kind := range kinds {
		t.Attrs = append(t.Attrs, api.Attr{Name: "a" + strconv.Itoa(i), Kind: kind})
	}
	return t
}

// all gives a type with an attribute of each kind.
func all() api.Type { return typed("T", api.KInt, api.KStr, api.KBool) }

func sameEvent(a, b api.Event) bool {
	return a.Type == b.Type && a.Time == b.Time && slices.Equal(a.Vals, b.Vals)
}

// reads holds Event against the event that it is to answer, and Row of that against the row.
func reads(t *testing.T, of api.Type, row []string, e api.Event) {
	t.Helper()
	got, err := csv.Event(of, row)
	if !sameEvent(got, e) || err != api.OK {
		t.Errorf("P4.4: Event(%+v, %.100q) = %.100v, %d, want %.100v", of, row, got, err, e)
		return
	}
	if back, err := csv.Row(of, got); !slices.Equal(back, row) || err != api.OK {
		t.Errorf("P4.6: Row(%+v, Event of %.100q) = %.100q, %d", of, row, back, err)
	}
}

func readsNot(t *testing.T, of api.Type, row []string, fault api.Errno) {
	t.Helper()
	if got, err := csv.Event(of, row); !sameEvent(got, api.Event{}) || got.Vals != nil || err != fault {
		t.Errorf("P4.4: Event(%.200v, %.100q) = %.100v, %d, want %d", of, row, got, err, fault)
	}
}

// writes holds Row against the cells that it is to answer, and Event of them against the event.
func writes(t *testing.T, of api.Type, e api.Event, row []string) {
	t.Helper()
	got, err := csv.Row(of, e)
	if !slices.Equal(got, row) || err != api.OK {
		t.Errorf("P4.5: Row(%+v, %.100v) = %.100q, %d, want %.100q", of, e, got, err, row)
		return
	}
	if back, err := csv.Event(of, got); !sameEvent(back, e) || err != api.OK {
		t.Errorf("P4.6: Event(%+v, Row of %.100v) = %.100v, %d", of, e, back, err)
	}
}

func writesNot(t *testing.T, of api.Type, e api.Event, fault api.Errno) {
	t.Helper()
	if got, err := csv.Row(of, e); got != nil || err != fault {
		t.Errorf("P4.5: Row(%.200v, %.100v) = %.100q, %d, want %d", of, e, got, err, fault)
	}
}

func TestEvent(t *testing.T) {
	reads(t, all(), []string{"7", "-3", `"hi"`, "TRUE"}, event("T", 7, number(-3), text(`"hi"`), truth(true)))
	reads(t, all(), []string{"0", "0", "", "FALSE"}, event("T", 0, number(0), text(""), truth(false)))
	reads(t, all(), []string{"4611686018427387904", "9223372036854775807", "TRUE", "TRUE"}, event("T", 1<<62, number(math.MaxInt64), text("TRUE"), truth(true)))
	reads(t, all(), []string{"1", "-9223372036854775808", strings.Repeat("\xff", 256), "TRUE"}, event("T", 1, number(math.MinInt64), text(strings.Repeat("\xff", 256)), truth(true)))
	for _, s := range []string{"7", `\`, `\n`, "\n", "\r\n", ",", `"`, "é\x00\xff", " x ", "FALSE", "-0"} {
		reads(t, all(), []string{"5", "1", s, "FALSE"}, event("T", 5, number(1), text(s), truth(false)))
	}
	reads(t, typed("Tick"), []string{"3"}, event("Tick", 3))
	reads(t, api.Type{}, []string{"3"}, event("", 3))
}

// TestNamesAreNotLookedAt takes types that may not be declared.
func TestNamesAreNotLookedAt(t *testing.T) {
	one := api.Attr{Name: "a", Kind: api.KInt}
	for _, name := range []string{"", "INT", "9", "a b", "\xff", "x,\"\r\n", strings.Repeat("T", 1000)} {
		of := api.Type{Name: name, Attrs: []api.Attr{one, one, {Name: name, Kind: api.KStr}, {Name: "time", Kind: api.KBool}}}
		row := []string{"5", "1", "2", "s", "TRUE"}
		reads(t, of, row, event(name, 5, number(1), number(2), text("s"), truth(true)))
		writes(t, of, event(name, 5, number(1), number(2), text("s"), truth(true)), row)
	}
	many := typed("Many", slices.Repeat([]int{api.KStr}, 1000)...)
	row := append([]string{"5"}, slices.Repeat([]string{"s"}, 1000)...)
	reads(t, many, row, event("Many", 5, slices.Repeat([]api.Value{text("s")}, 1000)...))
}

// wrongTimes are cells that are no time.
func wrongTimes() []string {
	return []string{
		"", " ", "-1", "-0", "+0", "+7", "00", "07", "7 ", " 7", "7\n", "7.0", "7e0", "0x7", "1_0", "x", "TRUE", `"7"`, `7"`, "７", "\xff",
		"4611686018427387905", "9223372036854775807", "9223372036854775808", "-9223372036854775808", "18446744073709551616", "18446744073709551623", strings.Repeat("9", 1000), strings.Repeat("x", 1<<20),
	}
}

func TestEventFaults(t *testing.T) {
	// ErrArity comes ahead of all.
	odd := typed("O", api.KInt, 4)
	for _, row := range [][]string{nil, {}, {"7"}, {"7", "-3", "hi"}, {"7", "-3", "hi", "TRUE", ""}, {"x"}, {"x", "x", "x"}, make([]string, 1000)} {
		readsNot(t, all(), row, api.ErrArity)
	}
	readsNot(t, api.Type{}, nil, api.ErrArity)
	readsNot(t, typed("Tick"), []string{"3", "4"}, api.ErrArity)
	readsNot(t, odd, []string{"3", "4"}, api.ErrArity)
	readsNot(t, odd, []string{"-1", "4", "5", "6"}, api.ErrArity)
	// Then ErrTime.
	for _, s := range wrongTimes() {
		readsNot(t, typed("Tick"), []string{s}, api.ErrTime)
		readsNot(t, all(), []string{s, "1", "", "TRUE"}, api.ErrTime)
		readsNot(t, all(), []string{s, "x", "", "true"}, api.ErrTime)
		readsNot(t, odd, []string{s, "x", "y"}, api.ErrTime)
	}
	// Then ErrKind, of whichever attribute.
	for _, kind := range []int{0, -1, 4, 5, 256 + api.KInt, 1<<32 + api.KStr, math.MinInt64, math.MaxInt64} {
		readsNot(t, typed("O", kind), []string{"1", "1"}, api.ErrKind)
		readsNot(t, typed("O", kind), []string{"1", ""}, api.ErrKind)
		readsNot(t, typed("O", kind, api.KInt), []string{"1", "1", "x"}, api.ErrKind)
		readsNot(t, typed("O", api.KInt, kind), []string{"1", "x", "1"}, api.ErrKind)
		readsNot(t, typed("O", api.KStr, api.KBool, kind), []string{"1", strings.Repeat("s", 257), "true", "1"}, api.ErrKind)
	}
	// Then ErrValue.
	for _, row := range [][]string{
		{"7", "3.0", "hi", "TRUE"}, {"7", "", "hi", "TRUE"}, {"7", "TRUE", "hi", "TRUE"}, {"7", `"3"`, "hi", "TRUE"}, {"7", "9223372036854775808", "hi", "TRUE"}, {"7", "-9223372036854775809", "hi", "TRUE"},
		{"7", "3", strings.Repeat("s", 257), "TRUE"}, {"7", "3", strings.Repeat("s", 1<<20), "TRUE"},
		{"7", "3", "hi", "true"}, {"7", "3", "hi", ""}, {"7", "3", "hi", "1"}, {"7", "3", "hi", "True"}, {"7", "3", "hi", " TRUE"}, {"7", "3", "hi", "FALSE "}, {"7", "3", "hi", `"TRUE"`},
	} {
		readsNot(t, all(), row, api.ErrValue)
	}
}

var numberForm = regexp.MustCompile(`^(0|-?[1-9][0-9]*)$`)

// modelNumber reads a number by the document's words.
func modelNumber(cell string) (int64, bool) {
	n, ok := new(big.Int).SetString(cell, 10)
	if !ok || !n.IsInt64() || !numberForm.MatchString(cell) {
		return 0, false
	}
	return n.Int64(), true
}

// modelValue reads a cell of a kind by the document's words.
func modelValue(kind int, cell string) (api.Value, bool) {
	switch kind {
	case api.KInt:
		n, ok := modelNumber(cell)
		return number(n), ok
	case api.KStr:
		return text(cell), len(cell) <= 256
	}
	return truth(cell == "TRUE"), cell == "TRUE" || cell == "FALSE"
}

// cells holds Event against the model, with a cell at all places.
func cells(t *testing.T, cell string) {
	t.Helper()
	n, ok := modelNumber(cell)
	if ok && n >= 0 && n <= 1<<62 {
		reads(t, typed("Tick"), []string{cell}, event("Tick", n))
	} else {
		readsNot(t, typed("Tick"), []string{cell}, api.ErrTime)
	}
	for _, kind := range []int{api.KInt, api.KStr, api.KBool} {
		of, row := typed("T", kind), []string{"5", cell}
		if v, ok := modelValue(kind, cell); ok {
			reads(t, of, row, event("T", 5, v))
		} else {
			readsNot(t, of, row, api.ErrValue)
		}
	}
}

func TestEventAllShortCells(t *testing.T) {
	texts("-+019 \"T", 4, func(cell string) { cells(t, cell) })
}

// TestEventOtherBytes puts every byte at every place of some cells.
func TestEventOtherBytes(t *testing.T) {
	for _, cell := range []string{"", "TRUE", "FALSE", "0", "-12", `"a"`, "4611686018427387904", "9223372036854775807", "-9223372036854775808", strings.Repeat("s", 256)} {
		cells(t, cell)
		for at := range len(cell) {
			for c := range 256 {
				one := string([]byte{byte(c)})
				cells(t, cell[:at]+one+cell[at+1:])
				cells(t, cell[:at]+one+cell[at:])
			}
			cells(t, cell[:at]+cell[at+1:])
		}
	}
}

func TestRow(t *testing.T) {
	writes(t, typed("T", api.KInt), event("T", 5, number(-3)), []string{"5", "-3"})
	writes(t, all(), event("T", 5, number(-3), text(`a,"`), truth(false)), []string{"5", "-3", `a,"`, "FALSE"})
	writes(t, all(), event("T", 1<<62, number(math.MinInt64), text(strings.Repeat("\x00", 256)), truth(true)), []string{"4611686018427387904", "-9223372036854775808", strings.Repeat("\x00", 256), "TRUE"})
	writes(t, all(), event("T", 0, number(math.MaxInt64), text(""), truth(true)), []string{"0", "9223372036854775807", "", "TRUE"})
	writes(t, typed("T", api.KBool, api.KBool, api.KInt, api.KInt), event("T", 1, truth(true), truth(false), number(0), number(10)), []string{"1", "TRUE", "FALSE", "0", "10"})
	for i := range 256 {
		s := string([]byte{byte(i)})
		writes(t, typed("T", api.KStr, api.KStr), event("T", int64(i), text(s), text("a"+s)), []string{strconv.Itoa(i), s, "a" + s})
	}
	writes(t, typed("Tick"), event("Tick", 3), []string{"3"})
	writes(t, api.Type{}, api.Event{}, []string{"0"})
}

func TestRowFaults(t *testing.T) {
	one, none := typed("T", api.KInt), api.Value{}
	// ErrType comes ahead of all.
	for _, name := range []string{"U", "t", "", "T ", "TT", "\xff", strings.Repeat("T", 1<<20)} {
		for _, e := range []api.Event{event(name, 5, number(1)), event(name, -1), event(name, 5), event(name, 5, none)} {
			writesNot(t, one, e, api.ErrType)
		}
	}
	// Then ErrTime.
	for _, time := range []int64{-1, math.MinInt64, -1 << 62, 1<<62 + 1, math.MaxInt64} {
		for _, e := range []api.Event{event("T", time, number(1)), event("T", time), event("T", time, none), event("T", time, text("x"))} {
			writesNot(t, one, e, api.ErrTime)
		}
	}
	// Then ErrArity.
	for _, vals := range [][]api.Value{nil, {number(1), number(2)}, {none, none}, make([]api.Value, 1000)} {
		writesNot(t, one, event("T", 5, vals...), api.ErrArity)
	}
	writesNot(t, typed("T"), event("T", 5, number(1)), api.ErrArity)
	writesNot(t, all(), event("T", 5, none, none), api.ErrArity)
	// Then value by value.
	for _, v := range []api.Value{
		none, {Kind: 4}, {Kind: 9}, {Kind: -1}, {Kind: 256 + api.KInt}, {Kind: 1<<32 + api.KInt}, {Kind: math.MinInt64}, {Str: "x"},
		{Kind: api.KInt, Str: "x"}, {Kind: api.KInt, Bool: true}, {Kind: api.KStr, Int: 1}, {Kind: api.KStr, Bool: true}, {Kind: api.KBool, Int: 1}, {Kind: api.KBool, Str: "x"}, text(strings.Repeat("x", 257)),
	} {
		for _, kind := range []int{api.KInt, api.KStr, api.KBool, 0, -1, 4, 9, v.Kind} {
			of := typed("T", kind, api.KInt)
			writesNot(t, of, event("T", 5, v, number(1)), api.ErrValue)
			writesNot(t, of, event("T", 5, v, text("x")), api.ErrValue)
		}
		writesNot(t, typed("T", api.KInt, api.KInt), event("T", 5, number(1), v), api.ErrValue)
		writesNot(t, typed("T", api.KInt, api.KInt), event("T", 5, text("3"), v), api.ErrKind)
	}
	for _, v := range []api.Value{number(1), text("3"), truth(true)} {
		for _, kind := range []int{api.KInt, api.KStr, api.KBool, 0, -1, 4, 256 + v.Kind, 1<<32 + v.Kind, math.MinInt64, math.MaxInt64} {
			if kind != v.Kind {
				writesNot(t, typed("T", kind), event("T", 5, v), api.ErrKind)
				writesNot(t, typed("T", v.Kind, kind), event("T", 5, v, v), api.ErrKind)
				writesNot(t, typed("T", kind, v.Kind), event("T", 5, v, none), api.ErrKind)
			}
		}
	}
}
