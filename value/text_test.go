package value_test

import (
	"fmt"
	"math"
	"regexp"
	"strings"
	"testing"

	"refrain/api"
	"refrain/value"
)

func TestShow(t *testing.T) {
	for _, x := range []struct {
		v    api.Value
		want string
	}{
		{number(0), "0"}, {number(7), "7"}, {number(-12), "-12"}, {number(1000000), "1000000"},
		{number(math.MaxInt64), "9223372036854775807"}, {number(math.MinInt64), "-9223372036854775808"},
		{truth(true), "TRUE"}, {truth(false), "FALSE"},
		{text(""), `""`}, {text("TRUE"), `"TRUE"`}, {text("-12"), `"-12"`}, {text("a b'c"), `"a b'c"`},
		{text("a\"\\\n\t\x00\x7f\xff"), `"a\"\\\n\t\x00\x7f\xff"`},
		{text(`\n`), `"\\n"`}, {text(`\x41`), `"\\x41"`}, {text("\r\v"), `"\x0d\x0b"`},
		{text("é€"), `"\xc3\xa9\xe2\x82\xac"`},
		{text(strings.Repeat("\x00", api.MaxStr)), `"` + strings.Repeat(`\x00`, api.MaxStr) + `"`},
	} {
		if s, err := value.Show(x.v); s != x.want || err != api.OK {
			t.Errorf("P1.2: Show(%v) = %s, %d, want %s", x.v, s, err, x.want)
		}
	}
	for _, v := range broken() {
		if s, err := value.Show(v); s != "" || err != api.ErrValue {
			t.Errorf("P1.2: Show(%v) = %s, %d, want ErrValue", v, s, err)
		}
	}
}

// written is how a byte of a string is to be written.
func written(c byte) string {
	switch {
	case c == '"':
		return `\"`
	case c == '\\':
		return `\\`
	case c == 10:
		return `\n`
	case c == 9:
		return `\t`
	case c >= 0x20 && c <= 0x7e:
		return string(rune(c))
	}
	return fmt.Sprintf(`\x%02x`, c)
}

func TestEveryByteOfAString(t *testing.T) {
	for i := range 256 {
		v := text("a" + string([]byte{byte(i)}) + "f")
		want := `"a` + written(byte(i)) + `f"`
		if s, err := value.Show(v); s != want || err != api.OK {
			t.Errorf("P1.2: Show of byte %d = %s, %d, want %s", i, s, err, want)
		}
		if w, err := value.Read(want); w != v || err != api.OK {
			t.Errorf("P1.3: Read(%s) = %v, %d, want %v", want, w, err, v)
		}
		hex := fmt.Sprintf(`"a\x%02xf"`, i)
		if w, err := value.Read(hex); hex != want && (w != api.Value{} || err != api.ErrValue) {
			t.Errorf("P1.3: Read(%s) = %v, %d, want ErrValue", hex, w, err)
		}
	}
}

func TestReadWhatShowWrites(t *testing.T) {
	for _, v := range rising() {
		s, _ := value.Show(v)
		if w, err := value.Read(s); w != v || err != api.OK {
			t.Errorf("P1.3: Read(%s) = %v, %d, want %v", s, w, err, v)
		}
	}
}

func TestReadRefuses(t *testing.T) {
	for _, s := range []string{
		"", " ", "-", "--1", "-0", "+0", "+1", "00", "007", "-01", "1_000", "1.0", "1e3", "0x1", "0b1", "1a", "a1", "1 2", " 1", "1 ", "1\n", "1\x00", "１",
		"9223372036854775808", "-9223372036854775809", "18446744073709551616", "-18446744073709551615", strings.Repeat("9", 10000), strings.Repeat("0", 10000),
		"true", "True", "tRUE", "FALSe", "T", "F", "TRU", "TRUEE", " TRUE", "TRUE ", "FALSE\n", "NULL",
		`"`, `"a`, `a"`, `a`, `'a'`, "`a`", ` "a"`, `"a" `, `"a""b"`, `"a"b`, `"""`, `""""`,
		`"\"`, `"\\\"`, `"\`, `"\x41"`, `"\x0A"`, `"\x0a"`, `"\x09"`, `"\x22"`, `"\x5c"`, `"\x7e"`, `"\xFF"`, `"\xfF"`, `"\X00"`, `"\x"`, `"\x0"`, `"\x0g"`, `"\xg0"`, `"\x 0"`, `"\x+1"`, `"\x00`, `"\x0"0"`,
		`"\q"`, `"\r"`, `"\N"`, `"\u0041"`, `"\101"`, `"\ "`, `"\'"`,
		"\"\n\"", "\"\t\"", "\"\x00\"", "\"\x7f\"", "\"\x80\"", "\"é\"", "\"\xff\"",
		`"` + strings.Repeat("a", api.MaxStr+1) + `"`, `"` + strings.Repeat(`\x00`, api.MaxStr+1) + `"`, `"` + strings.Repeat("a", 100000) + `"`,
	} {
		if v, err := value.Read(s); v != (api.Value{}) || err != api.ErrValue {
			t.Errorf("P1.3: Read(%q) = %v, %d, want ErrValue", s, v, err)
		}
	}
}

func TestReadStringsUpToTheirBound(t *testing.T) {
	for _, one := range []struct{ plain, shown string }{{"a", "a"}, {"\xff", `\xff`}, {`"`, `\"`}} {
		for _, n := range []int{api.MaxStr - 1, api.MaxStr} {
			v := text(strings.Repeat(one.plain, n))
			if w, err := value.Read(`"` + strings.Repeat(one.shown, n) + `"`); w != v || err != api.OK {
				t.Errorf("P1.3: %d times %q: %v, %d", n, one.plain, w, err)
			}
		}
	}
}

// TestReadAllShortTexts holds Read against the grammar of the one form, over all short texts of the bytes that matter to it.
func TestReadAllShortTexts(t *testing.T) {
	form := regexp.MustCompile(`^(0|-?[1-9][0-9]*|TRUE|FALSE|"([ !#-\[\]-~]|\\["\\nt]|\\x(0[0-8bcdef]|1[0-9a-f]|7f|[89a-f][0-9a-f]))*")$`)
	const bytes = "\"\\xnt017aAf- \n\x80"
	var try func(s string, more int)
	try = func(s string, more int) {
		v, err := value.Read(s)
		if want := form.MatchString(s); (err == api.OK) != want {
			t.Errorf("P1.3: Read(%q) = %v, %d, a text: %v", s, v, err, want)
		}
		if shown, _ := value.Show(v); err == api.OK && shown != s {
			t.Errorf("P1.3: Read(%q) = %v, whose text is %q", s, v, shown)
		}
		for i := 0; more > 0 && i < len(bytes); i++ {
			try(s+bytes[i:i+1], more-1)
		}
	}
	try("", 4)
	for _, open := range []string{`"`, `"\x`, `"a\x1f`} {
		try(open, 4)
	}
}
