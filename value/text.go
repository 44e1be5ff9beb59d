package value

import (
	"strconv"
	"strings"

	"refrain/api"
)

const (
	yes = "TRUE"
	no  = "FALSE"

	// The bytes that are written as a backslash and a letter, and their letters, in one order.
	escaped = "\"\\\n\t"
	letters = `"\nt`

	hexDigits = "0123456789abcdef"
)

// Show writes a value.
func Show(v api.Value) (string, api.Errno) {
	if !Valid(v) {
		return "", api.ErrValue
	}
	switch v.Kind {
	case api.KInt:
		return strconv.FormatInt(v.Int, 10), api.OK
	case api.KStr:
		return quote(v.Str), api.OK
	}
	if v.Bool {
		return yes, api.OK
	}
	return no, api.OK
}

// Read reads a value.
func Read(s string) (api.Value, api.Errno) {
	v, ok := understand(s)
	if !ok {
		return api.Value{}, api.ErrValue
	}
	// A value has one text alone, so one that Show would have written in another way is none.
	if shown, err := Show(v); err != api.OK || shown != s {
		return api.Value{}, api.ErrValue
	}
	return v, api.OK
}

// understand reads more than Show writes (`+1`, `"\x41"`): Read refuses the rest.
func understand(s string) (api.Value, bool) {
	switch {
	case s == yes:
		return truth(true), true
	case s == no:
		return truth(false), true
	case strings.HasPrefix(s, `"`):
		bytes, ok := unquote(s)
		return text(bytes), ok
	}
	n, err := strconv.ParseInt(s, 10, 64)
	return number(n), err == nil
}

func quote(s string) string {
	b := []byte{'"'}
	for i := range len(s) {
		b = appendByte(b, s[i])
	}
	return string(append(b, '"'))
}

func appendByte(b []byte, c byte) []byte {
	if i := strings.IndexByte(escaped, c); i >= 0 {
		return append(b, '\\', letters[i])
	}
	if c >= 0x20 && c <= 0x7e {
		return append(b, c)
	}
	return append(b, '\\', 'x', hexDigits[c>>4], hexDigits[c&15])
}

// unquote reads a string that stands in quotes.
func unquote(s string) (string, bool) {
	if len(s) < 2 || s[0] != '"' || s[len(s)-1] != '"' {
		return "", false
	}
	var b []byte
	for rest := s[1 : len(s)-1]; rest != ""; {
		c, size := firstByte(rest)
		if size == 0 {
			return "", false
		}
		b = append(b, c)
		rest = rest[size:]
	}
	return string(b), true
}

// firstByte tells the byte with which a string's inside begins and how much of the text it takes: nothing, if it is none. The inside is not empty.
func firstByte(s string) (byte, int) {
	if s[0] != '\\' {
		return s[0], 1
	}
	if len(s) < 2 {
		return 0, 0
	}
	if i := strings.IndexByte(letters, s[1]); i >= 0 {
		return escaped[i], 2
	}
	if s[1] != 'x' || len(s) < 4 {
		return 0, 0
	}
	high, low := strings.IndexByte(hexDigits, s[2]), strings.IndexByte(hexDigits, s[3])
	if high < 0 || low < 0 {
		return 0, 0
	}
	return byte(high<<4 | low), 4
}
