package csv_test

import (
	"slices"
	"strings"
	"testing"
	"unsafe"

	"refrain/api"
	"refrain/csv"
)

// spoil writes into a list and its spare room.
func spoil[T any](list []T) {
	clear(list[:cap(list)])
}

// within tells whether a text's bytes lie in those of another one.
func within(part, whole string) bool {
	if part == "" || whole == "" {
		return false
	}
	p, w := uintptr(unsafe.Pointer(unsafe.StringData(part))), uintptr(unsafe.Pointer(unsafe.StringData(whole)))
	return p >= w && p < w+uintptr(len(whole))
}

func TestWhatIsHandedInStaysAsItIs(t *testing.T) {
	cells := []string{"7", "-3", "a,b", "TRUE", "spare", "spare"}
	rows := [][]string{cells[:2], cells[:4], {"spare"}}
	vals := []api.Value{number(1), text("b"), truth(true), text("spare")}
	attrs := append(all().Attrs, api.Attr{Name: "spare", Kind: 9})
	wasCells, wasVals, wasAttrs := slices.Clone(cells), slices.Clone(vals), slices.Clone(attrs)
	for n := range attrs {
		of := api.Type{Name: "T", Attrs: attrs[:n]}
		csv.Event(of, cells[:n+1])
		csv.Event(of, cells[:n])
		csv.Row(of, event("T", 5, vals[:n]...))
		csv.Row(of, event("T", 5, vals[:3]...))
		csv.Join(rows[:2]...)
		csv.Join(cells[:n])
	}
	if !slices.Equal(cells, wasCells) || !slices.Equal(vals, wasVals) || !slices.Equal(attrs, wasAttrs) || !sameRows(rows, [][]string{cells[:2], cells[:4], {"spare"}}) {
		t.Errorf("P4.7: what was handed in is now %q, %+v, %+v", rows, vals, attrs)
	}
}

func TestSplitGivesNewMemory(t *testing.T) {
	const sheet = "a,b\r\n\r\n\"c\"\"\",d,e\n,\nf,g,h,i,j,k\n\"l\",m\n"
	want := [][]string{{"a", "b"}, {""}, {`c"`, "d", "e"}, {"", ""}, {"f", "g", "h", "i", "j", "k"}, {"l", "m"}}
	one, _, _ := csv.Split(sheet)
	other, _, _ := csv.Split(sheet)
	// No row reaches into another one, with its spare room neither.
	for i := range one {
		_ = append(one[i], "x", "x", "x")
		spoil(one[i])
		for j := i + 1; j < len(one); j++ {
			if !slices.Equal(one[j], want[j]) {
				t.Fatalf("P4.7: the rows %d and %d share memory: %q", i, j, one[j])
			}
		}
	}
	spoil(one)
	if !sameRows(other, want) {
		t.Errorf("P4.7: two answers of Split share memory: %q", other)
	}
	if third, _, _ := csv.Split(sheet); !sameRows(third, want) {
		t.Errorf("P4.7: what was written into an answer is in a later one: %q", third)
	}
}

func TestEventAndRowGiveNewMemory(t *testing.T) {
	of := all()
	of.Attrs = append(of.Attrs, of.Attrs...)
	row := []string{"7", "-3", "hi", "TRUE", "4", "ho", "FALSE"}
	e := event("T", 7, number(-3), text("hi"), truth(true), number(4), text("ho"), truth(false))
	for range 3 {
		one, _ := csv.Event(of, row)
		other, _ := csv.Event(of, row)
		_ = append(one.Vals, number(99))
		spoil(one.Vals)
		if !sameEvent(other, e) {
			t.Errorf("P4.7: two answers of Event share memory: %+v", other)
		}
		cells, _ := csv.Row(of, e)
		others, _ := csv.Row(of, e)
		_ = append(cells, "x")
		spoil(cells)
		if !slices.Equal(others, row) {
			t.Errorf("P4.7: two answers of Row share memory: %q", others)
		}
		if later, err := csv.Event(of, row); !sameEvent(later, e) || err != api.OK {
			t.Errorf("P4.7: what was written into an answer is in a later one: %+v, %d", later, err)
		}
	}
}

// TestTextsAreNotKept sees that no text of an answer is a piece of one that was handed in: it would keep the whole.
func TestTextsAreNotKept(t *testing.T) {
	sheet := strings.Repeat("plain,\"quoted\"\n", 3)
	rows, _, _ := csv.Split(sheet)
	for _, cell := range slices.Concat(rows...) {
		if within(cell, sheet) {
			t.Errorf("P4.7: the cell %q is a piece of the text", cell)
		}
	}
	long := "Type some string"
	of := typed(long[:4], api.KStr)
	row := []string{"5", long[5:9]}
	e, _ := csv.Event(of, row)
	if e.Type != "Type" || within(e.Type, long) || e.Vals[0].Str != "some" || within(e.Vals[0].Str, long) {
		t.Errorf("P4.7: a text of %+v is a piece of one that was handed in", e)
	}
	cells, _ := csv.Row(of, event(long[:4], 5, text(long[5:9])))
	if !slices.Equal(cells, row) || within(cells[1], long) {
		t.Errorf("P4.7: a cell of %q is a piece of a text that was handed in", cells)
	}
	if one, _ := csv.Join([]string{long}); within(one, long) {
		t.Errorf("P4.7: Join's answer is a piece of a cell")
	}
}

// TestAnswersHangOnArgumentsAlone asks the same behind calls of all kinds.
func TestAnswersHangOnArgumentsAlone(t *testing.T) {
	for range 3 {
		csv.Split("a\n\"b")
		csv.Join([]string{"x", "\""}, nil)
		csv.Event(all(), []string{"1", "2", "3", "4"})
		csv.Row(all(), event("T", 1, number(1), text("x"), number(1)))
		splits(t, "a\r\nb", [][]string{{"a"}, {"b"}}, 0, api.OK)
		splits(t, "ab\"c", nil, 2, api.ErrQuote)
		joins(t, "a,b\r\n", []string{"a", "b"})
		reads(t, typed("T", api.KInt), []string{"5", "-3"}, event("T", 5, number(-3)))
		writes(t, typed("T", api.KBool), event("T", 5, truth(true)), []string{"5", "TRUE"})
	}
}
