package csv_test

import (
	"slices"
	"strings"
	"testing"

	"refrain/api"
	"refrain/csv"
)

// joins holds Join against the text that it is to answer.
func joins(t *testing.T, text string, rows ...[]string) {
	t.Helper()
	if got, err := csv.Join(rows...); got != text || err != api.OK {
		t.Errorf("P4.2: Join(%.100q) = %.100q, %d, want %.100q", rows, got, err, text)
	}
}

func refuses(t *testing.T, fault api.Errno, rows ...[]string) {
	t.Helper()
	if text, err := csv.Join(rows...); text != "" || err != fault {
		t.Errorf("P4.2: Join(%.100q) = %.100q, %d, want %d", rows, text, err, fault)
	}
}

func TestJoin(t *testing.T) {
	joins(t, "")
	joins(t, "", [][]string{}...)
	joins(t, "a\r\n", []string{"a"})
	joins(t, "\r\n", []string{""})
	joins(t, "\r\n\r\n", []string{""}, []string{""})
	joins(t, ",\r\n", []string{"", ""})
	joins(t, "a,\"b,c\"\r\n\r\n\"\"\"\",\"\r\"\r\n", []string{"a", "b,c"}, []string{""}, []string{`"`, "\r"})
	joins(t, "\"\n\",\"\r\n\",\",\"\r\n", []string{"\n", "\r\n", ","})
	joins(t, `"""a"""`+"\r\n", []string{`"a"`})
	joins(t, `"""""","a""b""c"`+"\r\n", []string{`""`, `a"b"c`})
	joins(t, " a ,\t, \\n',\xff\x00é;#\r\n", []string{" a ", "\t", " \\n'", "\xff\x00é;#"})
	joins(t, "TRUE,-12,\"x\ny\"\r\nz\r\n", []string{"TRUE", "-12", "x\ny"}, []string{"z"})
}

// TestJoinEveryByte sees which bytes ask for quotes.
func TestJoinEveryByte(t *testing.T) {
	for i := range 256 {
		c := string([]byte{byte(i)})
		for _, cell := range []string{c, c + "a", "a" + c, "a" + c + "b"} {
			joins(t, modelCell(cell)+"\r\n", []string{cell})
		}
	}
}

func TestJoinRefusesRowsWithoutCells(t *testing.T) {
	a, long := []string{"a"}, []string{strings.Repeat("x", 70000)}
	refuses(t, api.ErrRow, nil)
	refuses(t, api.ErrRow, []string{})
	refuses(t, api.ErrRow, a, []string{})
	refuses(t, api.ErrRow, nil, a)
	refuses(t, api.ErrRow, a, nil, a)
	// It is told ahead of a text that is too long.
	refuses(t, api.ErrRow, long, nil)
	refuses(t, api.ErrRow, nil, long)
	refuses(t, api.ErrRow, append(slices.Repeat([][]string{a}, 70000), nil)...)
}

func TestJoinBound(t *testing.T) {
	x := func(n int) string { return strings.Repeat("x", n) }
	joins(t, x(65534)+"\r\n", []string{x(65534)})
	refuses(t, api.ErrLong, []string{x(65535)})
	refuses(t, api.ErrLong, []string{x(65536)})
	refuses(t, api.ErrLong, []string{x(65537)})
	refuses(t, api.ErrLong, []string{x(1 << 22)})
	// Quotes, commas and rows' ends are bytes of the text, too.
	joins(t, `"`+x(65531)+`,"`+"\r\n", []string{x(65531) + ","})
	refuses(t, api.ErrLong, []string{x(65532) + ","})
	joins(t, `"`+strings.Repeat(`""`, 32766)+`"`+"\r\n", []string{strings.Repeat(`"`, 32766)})
	refuses(t, api.ErrLong, []string{strings.Repeat(`"`, 32767)})
	refuses(t, api.ErrLong, []string{strings.Repeat(`"`, 65536)})
	joins(t, x(65532)+",y\r\n", []string{x(65532), "y"})
	refuses(t, api.ErrLong, []string{x(65532), "yz"})
	refuses(t, api.ErrLong, []string{"yz", x(65532)})
	joins(t, x(65533)+",\r\n", []string{x(65533), ""})
	refuses(t, api.ErrLong, []string{x(65534), ""})
	refuses(t, api.ErrLong, []string{"", x(65534)})
	joins(t, strings.Repeat(",", 65534)+"\r\n", make([]string, 65535))
	refuses(t, api.ErrLong, make([]string, 65536))
	refuses(t, api.ErrLong, make([]string, 1<<20))
	empty := slices.Repeat([][]string{{""}}, 32769)
	joins(t, strings.Repeat("\r\n", 32768), empty[:32768]...)
	refuses(t, api.ErrLong, empty...)
	joins(t, "a\r\n"+x(65531)+"\r\n", []string{"a"}, []string{x(65531)})
	refuses(t, api.ErrLong, []string{"a"}, []string{x(65532)})
	refuses(t, api.ErrLong, []string{x(65534)}, []string{""})
	refuses(t, api.ErrLong, []string{x(65535)}, []string{"a"})
}

// TestJoinOfOneLongCell joins far more bytes than there could be room for: one text, at all places.
func TestJoinOfOneLongCell(t *testing.T) {
	long := strings.Repeat(`"`, 1<<20)
	row := slices.Repeat([]string{long}, 1<<16)
	refuses(t, api.ErrLong, slices.Repeat([][]string{row}, 1<<12)...)
}

// modelCell writes a cell by the document's words.
func modelCell(cell string) string {
	var text []byte
	quotes := false
	for i := range len(cell) {
		c := cell[i]
		quotes = quotes || c == 44 || c == 34 || c == 13 || c == 10
		if c == 34 {
			text = append(text, c)
		}
		text = append(text, c)
	}
	if quotes {
		return `"` + string(text) + `"`
	}
	return cell
}

// modelJoin writes rows by the document's words.
func modelJoin(rows [][]string) string {
	text := ""
	for _, row := range rows {
		end := ""
		for _, cell := range row {
			text += end + modelCell(cell)
			end = ","
		}
		text += "\r\n"
	}
	return text
}

// backAgain sees that Split of the rows' text is the rows.
func backAgain(t *testing.T, rows ...[]string) {
	t.Helper()
	text := modelJoin(rows)
	joins(t, text, rows...)
	if got, at, err := csv.Split(text); !sameRows(got, rows) || at != 0 || err != api.OK {
		t.Errorf("P4.3: Split of Join(%.100q) = %.100q, %d, %d", rows, got, at, err)
	}
}

// TestJoinAllShortRows holds Join against the model.
func TestJoinAllShortRows(t *testing.T) {
	var cells []string
	texts("a,\"\r\n", 5, func(cell string) {
		backAgain(t, []string{cell})
		if len(cell) <= 2 {
			cells = append(cells, cell)
		}
	})
	for _, a := range cells {
		for _, b := range cells {
			backAgain(t, []string{a, b})
			backAgain(t, []string{a}, []string{b})
			for _, c := range cells {
				backAgain(t, []string{a, b, c})
				backAgain(t, []string{a}, []string{b, c})
			}
		}
	}
	backAgain(t)
	backAgain(t, slices.Repeat([]string{""}, 1000), []string{""}, cells)
}
