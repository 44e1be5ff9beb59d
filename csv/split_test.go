package csv_test

import (
	"slices"
	"strings"
	"testing"

	"refrain/api"
	"refrain/csv"
)

func sameRows(a, b [][]string) bool { return slices.EqualFunc(a, b, slices.Equal[[]string]) }

// splits holds Split against what it is to answer.
func splits(t *testing.T, text string, rows [][]string, at int, err api.Errno) {
	t.Helper()
	if got, place, e := csv.Split(text); !sameRows(got, rows) || place != at || e != err || err != api.OK && got != nil {
		t.Errorf("P4.1: Split(%.60q) = %.100q, %d, %d, want %.100q, %d, %d", text, got, place, e, rows, at, err)
	}
}

func TestSplit(t *testing.T) {
	for _, x := range []struct {
		text string
		rows [][]string
	}{
		{"", nil},
		{"a", [][]string{{"a"}}},
		{"a,b\r\nc", [][]string{{"a", "b"}, {"c"}}},
		{"a\n", [][]string{{"a"}}},
		{"a\r\n", [][]string{{"a"}}},
		{"a\n\n", [][]string{{"a"}, {""}}},
		{"a\n\r\n", [][]string{{"a"}, {""}}},
		{"a\r\n\n", [][]string{{"a"}, {""}}},
		{"\n", [][]string{{""}}},
		{"\r\n", [][]string{{""}}},
		{"\n\n\r\n\n", [][]string{{""}, {""}, {""}, {""}}},
		{",", [][]string{{"", ""}}},
		{",\n", [][]string{{"", ""}}},
		{"\n,", [][]string{{""}, {"", ""}}},
		{",,,", [][]string{{"", "", "", ""}}},
		{"a,", [][]string{{"a", ""}}},
		{"a,\r\n,b", [][]string{{"a", ""}, {"", "b"}}},
		{"\"a \"\"x\"\", b\r\nc\",d", [][]string{{"a \"x\", b\r\nc", "d"}}},
		{`""`, [][]string{{""}}},
		{`"",""`, [][]string{{"", ""}}},
		{`"",`, [][]string{{"", ""}}},
		{`,""`, [][]string{{"", ""}}},
		{"\"\"\n\"\"\r\n", [][]string{{""}, {""}}},
		{`""""`, [][]string{{`"`}}},
		{`""""""`, [][]string{{`""`}}},
		{`"""",""""`, [][]string{{`"`, `"`}}},
		{`"a","b"`, [][]string{{"a", "b"}}},
		{`"a",b,"c"`, [][]string{{"a", "b", "c"}}},
		{"\"a\"\nb", [][]string{{"a"}, {"b"}}},
		{"\"a\"\r\n\"b\"\r\n", [][]string{{"a"}, {"b"}}},
		{"\"\r\"", [][]string{{"\r"}}},
		{"\"\n\"", [][]string{{"\n"}}},
		{"\"\r\n\",\",\"", [][]string{{"\r\n", ","}}},
		{"\"\r\"\"\r\"", [][]string{{"\r\"\r"}}},
		{" a ,\t\\\xff\x00'", [][]string{{" a ", "\t\\\xff\x00'"}}},
		{"\" \\n é\xff\x00\"", [][]string{{" \\n é\xff\x00"}}},
		{"é\u2028ü;\vx\f", [][]string{{"é\u2028ü;\vx\f"}}},
		{"plain text of some length\xff\xfe,\xc3\n\xc3\xa9", [][]string{{"plain text of some length\xff\xfe", "\xc3"}, {"\xc3\xa9"}}},
	} {
		splits(t, x.text, x.rows, 0, api.OK)
	}
}

func TestSplitFaults(t *testing.T) {
	for _, x := range []struct {
		text string
		at   int
		err  api.Errno
	}{
		// A quote in a plain cell.
		{`ab"c`, 2, api.ErrQuote}, {`a"`, 1, api.ErrQuote}, {` "a"`, 1, api.ErrQuote}, {`x,a""`, 3, api.ErrQuote}, {"x\nyy\"", 4, api.ErrQuote}, {`"a",b"c"`, 5, api.ErrQuote}, {"a\"\rb", 1, api.ErrQuote},
		// A byte behind the closing quote.
		{`"ab"c`, 4, api.ErrQuote}, {`"" `, 2, api.ErrQuote}, {`""a`, 2, api.ErrQuote}, {`"""" "`, 4, api.ErrQuote}, {"a\n\"b\" \"", 5, api.ErrQuote}, {`"a"é`, 3, api.ErrQuote}, {"\"a\"\x00", 3, api.ErrQuote}, {"\"a\"b\r", 3, api.ErrQuote}, {`"a"b"`, 3, api.ErrQuote},
		// CR without LF.
		{"a\rb", 1, api.ErrRow}, {"a\r", 1, api.ErrRow}, {"\r", 0, api.ErrRow}, {"\"a\"\r", 3, api.ErrRow}, {"\"a\"\r\"", 3, api.ErrRow}, {"\r\r\n", 0, api.ErrRow}, {"a\r\r\n", 1, api.ErrRow}, {",\r,", 1, api.ErrRow}, {"a,b\r,c", 3, api.ErrRow}, {"a\n\r", 2, api.ErrRow}, {"a\n\ra", 2, api.ErrRow}, {"a\r\"", 1, api.ErrRow}, {"\"\"\r\r\n", 2, api.ErrRow}, {"a\r\n\r", 3, api.ErrRow},
		// A quoted cell without an end.
		{`"`, 0, api.ErrQuote}, {`x,"ab`, 2, api.ErrQuote}, {`"a""`, 0, api.ErrQuote}, {`"""`, 0, api.ErrQuote}, {`"",""",`, 3, api.ErrQuote}, {"a\n\"b\r", 2, api.ErrQuote}, {"\"a\r\n,b\n", 0, api.ErrQuote}, {`"a,b""c`, 0, api.ErrQuote}, {"\"ok\"\r\n,\"", 7, api.ErrQuote},
		// The first of two faults.
		{"a\rb\"c", 1, api.ErrRow}, {"a\"b\r", 1, api.ErrQuote}, {"\"a\"b,\"", 3, api.ErrQuote}, {"a\r\"b", 1, api.ErrRow},
	} {
		splits(t, x.text, nil, x.at, x.err)
	}
}

func TestSplitBound(t *testing.T) {
	plain := strings.Repeat("x", 65536)
	splits(t, plain, [][]string{{plain}}, 0, api.OK)
	splits(t, `"`+plain[2:]+`"`, [][]string{{plain[2:]}}, 0, api.OK)
	splits(t, strings.Repeat("\n", 65536), slices.Repeat([][]string{{""}}, 65536), 0, api.OK)
	splits(t, strings.Repeat(",", 65536), [][]string{make([]string, 65537)}, 0, api.OK)
	splits(t, strings.Repeat(`"`, 65536), [][]string{{strings.Repeat(`"`, 32767)}}, 0, api.OK)
	splits(t, plain[1:]+`"`, nil, 65535, api.ErrQuote)
	splits(t, plain[1:]+"\r", nil, 65535, api.ErrRow)
	splits(t, plain[1:]+"\n", [][]string{{plain[1:]}}, 0, api.OK)
	// The length is looked at ahead of all faults.
	for _, long := range []string{plain + "x", plain + "\n", strings.Repeat(`"`, 65537), "a\"" + plain, "\r" + plain, strings.Repeat("x", 1<<22)} {
		splits(t, long, nil, 0, api.ErrLong)
	}
}

// The states in which the model is between two bytes.
const (
	ahead  = iota // of a row
	begun         // a cell, without a byte so far
	plain         // within a plain cell
	quoted        // within a quoted cell
	closed        // behind a quote within a quoted cell
	turned        // behind a CR
)

// model reads a text in another way than the program: byte by byte, by what the bytes ahead have led to.
type model struct {
	state int
	open  int // where the quoted cell began
	cell  string
	row   []string
	rows  [][]string
}

func (m *model) endCell() { m.row, m.cell, m.state = append(m.row, m.cell), "", begun }

func (m *model) endRow() {
	m.endCell()
	m.rows, m.row, m.state = append(m.rows, m.row), nil, ahead
}

// take goes by a byte, or tells what is wrong with it; a fault behind a CR is one of the byte ahead.
func (m *model) take(at int, c byte) (int, api.Errno) {
	switch {
	case m.state == turned && c != '\n':
		return at - 1, api.ErrRow
	case m.state == quoted && c != '"':
		m.cell += string([]byte{c})
	case m.state == quoted:
		m.state = closed
	case m.state == closed && c == '"':
		m.cell += `"`
		m.state = quoted
	case c == ',':
		m.endCell()
	case c == '\n':
		m.endRow()
	case c == '\r':
		m.state = turned
	case m.state == closed, c == '"' && m.state == plain:
		return at, api.ErrQuote
	case c == '"':
		m.state, m.open = quoted, at
	default:
		m.cell += string([]byte{c})
		m.state = plain
	}
	return 0, api.OK
}

// modelSplit is what Split is to answer of a text that is not too long.
func modelSplit(text string) ([][]string, int, api.Errno) {
	var m model
	for at := range len(text) {
		if place, err := m.take(at, text[at]); err != api.OK {
			return nil, place, err
		}
	}
	switch m.state {
	case turned:
		return nil, len(text) - 1, api.ErrRow
	case quoted:
		return nil, m.open, api.ErrQuote
	case begun, plain, closed:
		m.endRow()
	}
	return m.rows, 0, api.OK
}

// thereAndBack sees that the rows of a text are the rows of the text that Join makes of them.
func thereAndBack(t *testing.T, text string) {
	t.Helper()
	rows, _, err := csv.Split(text)
	if err != api.OK {
		return
	}
	joined, err := csv.Join(rows...)
	if err == api.ErrLong && joined == "" {
		return
	}
	again, at, e := csv.Split(joined)
	if err != api.OK || !sameRows(again, rows) || at != 0 || e != api.OK {
		t.Errorf("P4.3: Split(%.60q) = %.100q, Join of it = %.60q, %d, Split of that = %.100q, %d, %d", text, rows, joined, err, again, at, e)
	}
}

// texts calls for each text of so many bytes at most, of these bytes.
func texts(bytes string, most int, call func(text string)) {
	row := []string{""}
	for {
		for _, text := range row {
			call(text)
		}
		if most == 0 {
			return
		}
		most--
		var longer []string
		for _, text := range row {
			for i := range len(bytes) {
				longer = append(longer, text+bytes[i:i+1])
			}
		}
		row = longer
	}
}

// TestSplitAllShortTexts holds Split against the model.
func TestSplitAllShortTexts(t *testing.T) {
	texts("a,\"\r\n", 7, func(text string) {
		rows, at, err := modelSplit(text)
		splits(t, text, rows, at, err)
		thereAndBack(t, text)
	})
}

// TestSplitOtherBytes puts every byte at every place of some texts.
func TestSplitOtherBytes(t *testing.T) {
	for _, text := range []string{"a,b\r\nc", "\"a \"\"x\"\", b\r\nc\",d", "\"a\"\r\n,\"\"\n", "plain text of some length, and more\n"} {
		for at := range len(text) {
			for c := range 256 {
				one := string([]byte{byte(c)})
				for _, other := range []string{text[:at] + one + text[at+1:], text[:at] + one + text[at:], text[:at] + text[at+1:]} {
					rows, place, err := modelSplit(other)
					splits(t, other, rows, place, err)
					thereAndBack(t, other)
				}
			}
		}
	}
}
