package token_test

import (
	"fmt"
	"math/big"
	"regexp"
	"slices"
	"strings"
	"testing"

	"refrain/api"
	"refrain/token"
)

func word(text string, at int) api.Tok   { return api.Tok{Kind: api.TWord, Text: text, At: at} }
func number(text string, at int) api.Tok { return api.Tok{Kind: api.TInt, Text: text, At: at} }
func str(bytes string, at int) api.Tok   { return api.Tok{Kind: api.TStr, Text: bytes, At: at} }
func sign(text string, at int) api.Tok   { return api.Tok{Kind: api.TSign, Text: text, At: at} }
func end(at int) api.Tok                 { return api.Tok{Kind: api.TEnd, At: at} }

func ones(text string, times int) string { return strings.Repeat(text, times) }

// short tells tokens in not too many bytes.
func short(toks []api.Tok) string { return fmt.Sprintf("%.300q", fmt.Sprint(toks)) }

// scans holds Scan against the tokens that it is to answer.
func scans(t *testing.T, text string, toks ...api.Tok) {
	t.Helper()
	if got, at, err := token.Scan(text); !slices.Equal(got, toks) || at != 0 || err != api.OK {
		t.Errorf("P5.1: Scan(%.80q) = %s, %d, %d, want %s", text, short(got), at, err, short(toks))
	}
}

// scansNot holds Scan against the fault that it is to tell.
func scansNot(t *testing.T, text string, at int, fault api.Errno) {
	t.Helper()
	if got, place, err := token.Scan(text); got != nil || place != at || err != fault {
		t.Errorf("P5.1: Scan(%.80q) = %s, %d, %d, want %d, %d", text, short(got), place, err, at, fault)
	}
}

func TestScan(t *testing.T) {
	scans(t, "", end(0))
	scans(t, "a.b >= 12", word("a", 0), sign(".", 1), word("b", 2), sign(">=", 4), number("12", 7), end(9))
	scans(t, "b[..i-1]", word("b", 0), sign("[", 1), sign("..", 2), word("i", 4), sign("-", 5), number("1", 6), sign("]", 7), end(8))
	scans(t, "!(T a)!=", sign("!", 0), sign("(", 1), word("T", 2), word("a", 4), sign(")", 5), sign("!=", 6), end(8))
	scans(t, `"a\x41\n"`, str("aA\n", 0), end(9))
	scans(t, "PATTERN SEQ(T+ b[])", word("PATTERN", 0), word("SEQ", 8), sign("(", 11), word("T", 12), sign("+", 13), word("b", 15), sign("[", 16), sign("]", 17), sign(")", 18), end(19))
	scans(t, `x="s"y"z"1"2"`, word("x", 0), sign("=", 1), str("s", 2), word("y", 5), str("z", 6), number("1", 9), str("2", 10), end(13))
}

func TestScanBlanksAndComments(t *testing.T) {
	scans(t, " ", end(1))
	scans(t, " \t\n\r", end(4))
	scans(t, "\r\n\t a \t\r\n", word("a", 4), end(9))
	scans(t, "--", end(2))
	scans(t, "--\n", end(3))
	scans(t, "---", end(3))
	scans(t, "--\n-", sign("-", 3), end(4))
	scans(t, "--\n--\n  --", end(10))
	scans(t, "x-- y\nz", word("x", 0), word("z", 6), end(7))
	scans(t, "x -- y -- z\n-- \"\n\nz--", word("x", 0), word("z", 18), end(21))
	scans(t, "1--2", number("1", 0), end(4))
	scans(t, "- -", sign("-", 0), sign("-", 2), end(3))
	scans(t, "<--=\n=", sign("<", 0), sign("=", 5), end(6))
	scans(t, "\"a\"--\"b\"\n\"c\"", str("a", 0), str("c", 9), end(12))
	scans(t, `"--"`, str("--", 0), end(4))
	// A CR ends no comment; what stands in one may be anything.
	scans(t, "a--b\rc", word("a", 0), end(6))
	scans(t, "--&\x00\xff\" 007 é \\\na", word("a", 16), end(17))
	scans(t, "--\xc3\na", word("a", 4), end(5))
	for _, c := range []string{"\v", "\f", "\x00", "\u00a0", "\u0085", "\u2028", "\ufeff"} {
		scansNot(t, c, 0, api.ErrChar)
		scansNot(t, "a"+c, 1, api.ErrChar)
	}
}

func TestScanWords(t *testing.T) {
	for _, s := range []string{"_", "a", "Z", "SEQ", "seq", "__9", "_9", "a9_B", "i", "time", ones("w", 32), "_" + ones("9", 31)} {
		scans(t, s, word(s, 0), end(len(s)))
		scans(t, " "+s+".", word(s, 1), sign(".", 1+len(s)), end(2+len(s)))
	}
	for _, s := range []string{ones("w", 33), ones("_", 33), "a" + ones("9", 32), ones("w", 4096)} {
		scansNot(t, s, 0, api.ErrLit)
	}
	scansNot(t, "ab "+ones("w", 33)+" &", 3, api.ErrLit)
	scansNot(t, ones("w", 33)+`"`, 0, api.ErrLit)
	scansNot(t, ones("w", 32)+"é", 32, api.ErrChar)
	scansNot(t, "ſ", 0, api.ErrChar)
	scansNot(t, "aＡ", 1, api.ErrChar)
	scansNot(t, "a\xff", 1, api.ErrChar)
}

func TestScanNumbers(t *testing.T) {
	for _, s := range []string{"0", "1", "9", "10", "100", "1234567890", "999999999999999999", "1000000000000000000", "9223372036854775799", "9223372036854775807"} {
		scans(t, s, number(s, 0), end(len(s)))
		scans(t, "-"+s+".."+s, sign("-", 0), number(s, 1), sign("..", 1+len(s)), number(s, 3+len(s)), end(3+2*len(s)))
	}
	for _, s := range []string{
		"00", "01", "007", "0000000000000000000000", "9223372036854775808", "9223372036854775810", "9999999999999999999", "10000000000000000000", "18446744073709551616", "18446744073709551617", ones("9", 4000),
		"12a", "1_", "0_", "0x41", "1e5", "1Z", "9223372036854775807a", "1_000", "0a\x00",
	} {
		scansNot(t, s, 0, api.ErrLit)
		scansNot(t, "a "+s, 2, api.ErrLit)
		scansNot(t, "--\n-"+s+" &", 4, api.ErrLit)
	}
	scansNot(t, ones("9", 4096), 0, api.ErrLit)
	scans(t, `1.5`, number("1", 0), sign(".", 1), number("5", 2), end(3))
	scans(t, `0 0`, number("0", 0), number("0", 2), end(3))
	scansNot(t, "1é", 1, api.ErrChar)
	scansNot(t, "1٣", 1, api.ErrChar)
	scansNot(t, "１", 0, api.ErrChar)
}

func TestScanSigns(t *testing.T) {
	for _, s := range signs() {
		scans(t, s, sign(s, 0), end(len(s)))
		scans(t, s+" "+s+"a", sign(s, 0), sign(s, 1+len(s)), word("a", 1+2*len(s)), end(2+2*len(s)))
	}
	scans(t, "...", sign("..", 0), sign(".", 2), end(3))
	scans(t, "....", sign("..", 0), sign("..", 2), end(4))
	scans(t, "===", sign("=", 0), sign("=", 1), sign("=", 2), end(3))
	scans(t, "<==>=!==!", sign("<=", 0), sign("=", 2), sign(">=", 3), sign("!=", 5), sign("=", 7), sign("!", 8), end(9))
	scans(t, "=<=>", sign("=", 0), sign("<=", 1), sign(">", 3), end(4))
	scans(t, "<>", sign("<", 0), sign(">", 1), end(2))
	scans(t, "<.>.!.=", sign("<", 0), sign(".", 1), sign(">", 2), sign(".", 3), sign("!", 4), sign(".", 5), sign("=", 6), end(7))
	scans(t, ".=.", sign(".", 0), sign("=", 1), sign(".", 2), end(3))
	scans(t, "()[]{},.+-*=", sign("(", 0), sign(")", 1), sign("[", 2), sign("]", 3), sign("{", 4), sign("}", 5), sign(",", 6), sign(".", 7), sign("+", 8), sign("-", 9), sign("*", 10), sign("=", 11), end(12))
	for _, c := range []string{"#", "$", "%", "&", "'", "/", ":", ";", "?", "@", `\`, "^", "`", "|", "~", "\x7f", "\x80", "\xff", "\x01", "é", "≤"} {
		scansNot(t, c, 0, api.ErrChar)
		scansNot(t, "a <"+c, 3, api.ErrChar)
		scansNot(t, c+" &", 0, api.ErrChar)
	}
	scansNot(t, "a & b", 2, api.ErrChar)
}

// signs are all signs of the language.
func signs() []string { return strings.Fields("( ) [ ] { } , . .. + - * = != < <= > >= !") }

func TestScanStrings(t *testing.T) {
	scans(t, `""`, str("", 0), end(2))
	scans(t, `"" ""`, str("", 0), str("", 3), end(5))
	scans(t, `"a""b"`, str("a", 0), str("b", 3), end(6))
	scans(t, `"\"\\\n\t\x00\xfF\xAb"`, str("\"\\\n\t\x00\xff\xab", 0), end(22))
	scans(t, `"\\x41"`, str(`\x41`, 0), end(7))
	scans(t, `"\x22\x5c\x0A"`, str("\"\\\n", 0), end(14))
	scans(t, `"\x414"`, str("A4", 0), end(7))
	scans(t, `" ~'--(a) 007"`, str(" ~'--(a) 007", 0), end(14))
	scans(t, `"\""`, str(`"`, 0), end(4))
	scans(t, `"\\"`, str(`\`, 0), end(4))
	// Open: the place is the string's.
	for _, s := range []string{`"`, `"ab`, `"a\`, `"a\x`, `"a\x4`, `"\"`, `"\\\"`, `"\x`, `"a -- b`, `"\x41`} {
		scansNot(t, s, 0, api.ErrOpen)
		scansNot(t, "-- \"\n."+s, 6, api.ErrOpen)
	}
	scansNot(t, `"""`, 2, api.ErrOpen)
	scansNot(t, `x "ab`, 2, api.ErrOpen)
	scansNot(t, `"a" "b`, 4, api.ErrOpen)
	// A byte that is no character: the place is its own.
	for _, c := range []string{"\n", "\r", "\t", "\x00", "\x1f", "\x7f", "\x80", "\xff", "é"} {
		scansNot(t, `"`+c+`"`, 1, api.ErrChar)
		scansNot(t, `  "ab\n`+c, 7, api.ErrChar)
		scansNot(t, `"ab`+c+`\q`, 3, api.ErrChar)
	}
	// An escape that is none: the place is that of its backslash.
	for _, s := range []string{`\q`, `\ `, `\'`, `\N`, `\T`, `\X41`, `\r`, `\0`, `\u0041`, "\\\n", "\\\x00", "\\\xff", `\xg`, `\x"`, `\x4"`, `\x4g`, `\xg4`, `\x 4`, `\x+1`, `\x4_`, `\x\x`, "\\x\n", "\\x4\n", "\\x4\xff", `\x4G`, `\x/0`, `\x:0`, `\x@0`, "\\x`0"} {
		scansNot(t, `"`+s+`"`, 1, api.ErrLit)
		scansNot(t, `"`+s, 1, api.ErrLit)
		scansNot(t, `a "b`+s+`" &`, 4, api.ErrLit)
	}
}

func TestScanLongStrings(t *testing.T) {
	s := ones("s", 256)
	scans(t, `"`+s+`"`, str(s, 0), end(258))
	// It counts what the string stands for, not the characters' bytes.
	scans(t, `"`+ones(`\x41`, 256)+`"`, str(ones("A", 256), 0), end(1026))
	scans(t, `"`+ones(`\n`, 256)+`"`, str(ones("\n", 256), 0), end(514))
	scans(t, ones(`"`+s+`"`, 2), str(s, 0), str(s, 258), end(516))
	for _, more := range []string{"s", "s\"", "s\n", `s\q"`, `\x41`, `\n"`, `\"`, `\\`, ones("s", 1000)} {
		scansNot(t, `a "`+s+more, 2, api.ErrLit)
	}
	// What is no further character is told of instead.
	scansNot(t, `a "`+s, 2, api.ErrOpen)
	scansNot(t, `a "`+s+`\`, 2, api.ErrOpen)
	scansNot(t, `a "`+s+`\x`, 2, api.ErrOpen)
	scansNot(t, `a "`+s+`\x4`, 2, api.ErrOpen)
	scansNot(t, `a "`+s+"\n", 259, api.ErrChar)
	scansNot(t, `a "`+s+"\xff", 259, api.ErrChar)
	scansNot(t, `a "`+s+`\q`, 259, api.ErrLit)
	scansNot(t, `a "`+s+`\x"`, 259, api.ErrLit)
	scansNot(t, `a "`+s+`\x4g`, 259, api.ErrLit)
}

func TestScanTellsTheFirstFault(t *testing.T) {
	scansNot(t, `& 007 "`, 0, api.ErrChar)
	scansNot(t, `007 & "`, 0, api.ErrLit)
	scansNot(t, `"a & 007`, 0, api.ErrOpen)
	scansNot(t, `"a\q" 007 &`, 2, api.ErrLit)
	scansNot(t, "\"a\n\\q\"", 2, api.ErrChar)
	scansNot(t, "ok \"fine\" 12 -- &\n & 007", 19, api.ErrChar)
}

func TestScanBound(t *testing.T) {
	scans(t, ones(" ", 4096), end(4096))
	scans(t, "--"+ones("&", 4094), end(4096))
	var toks []api.Tok
	for at := range 4096 {
		toks = append(toks, sign("(", at))
	}
	scans(t, ones("(", 4096), append(toks, end(4096))...)
	scans(t, ones(" ", 4095)+"a", word("a", 4095), end(4096))
	scansNot(t, ones(" ", 4095)+"&", 4095, api.ErrChar)
	scansNot(t, ones(" ", 4095)+`"`, 4095, api.ErrOpen)
	// The length is looked at ahead of all faults.
	for _, long := range []string{ones(" ", 4097), ones("w", 4097), "&" + ones(" ", 4096), `"` + ones(" ", 4096), "--" + ones(" ", 4095), "007" + ones("a", 1<<22)} {
		scansNot(t, long, 0, api.ErrLong)
	}
}

var (
	modelSkip   = regexp.MustCompile(`^(?:[ \t\n\r]|--[^\n]*)*`)
	modelWord   = regexp.MustCompile(`^[A-Za-z_][A-Za-z0-9_]*`)
	modelNumber = regexp.MustCompile(`^[0-9]+`)
	modelSign   = regexp.MustCompile(`^(?:\.\.|!=|<=|>=|[(){}\[\],.+*=!<>-])`)
	modelChar   = regexp.MustCompile(`^(?:[ !#-\[\]-~]|\\["\\nt]|\\x[0-9a-fA-F][0-9a-fA-F])`)
	modelTorn   = regexp.MustCompile(`^(?:\\(?:x[0-9a-fA-F]?)?)?$`)
)

// modelString reads the string with which the text begins, and tells what it stands for and its length; or a fault and its place.
func modelString(text string) (string, int, api.Errno) {
	at, stands := 1, 0
	for {
		rest := text[at:]
		char := modelChar.FindString(rest)
		switch {
		case char != "" && stands == 256:
			return "", 0, api.ErrLit
		case char != "":
			stands++
			at += len(char)
		case modelTorn.MatchString(rest):
			return "", 0, api.ErrOpen
		case rest[0] == '"':
			return modelBytes(text[1:at]), at + 1, api.OK
		case rest[0] == '\\':
			return "", at, api.ErrLit
		default:
			return "", at, api.ErrChar
		}
	}
}

// modelBytes tells what right characters stand for.
func modelBytes(chars string) string {
	var bytes []byte
	for chars != "" {
		char := modelChar.FindString(chars)
		chars = chars[len(char):]
		switch {
		case len(char) == 1:
			bytes = append(bytes, char[0])
		case len(char) == 4:
			n, _ := new(big.Int).SetString(char[2:], 16)
			bytes = append(bytes, byte(n.Int64()))
		default:
			bytes = append(bytes, map[string]byte{`\"`: 34, `\\`: 92, `\n`: 10, `\t`: 9}[char])
		}
	}
	return string(bytes)
}

func modelNumberMayBe(digits, behind string) bool {
	n, _ := new(big.Int).SetString(digits, 10)
	return n.IsInt64() && n.String() == digits && !regexp.MustCompile(`^[A-Za-z_]`).MatchString(behind)
}

// modelNext reads the token with which the text begins, in another way than the program, and tells its length; or a fault and its place.
func modelNext(text string) (api.Tok, int, api.Errno) {
	if text == "" {
		return end(0), 0, api.OK
	}
	if s := modelWord.FindString(text); s != "" {
		if len(s) > 32 {
			return api.Tok{}, 0, api.ErrLit
		}
		return word(s, 0), len(s), api.OK
	}
	if s := modelNumber.FindString(text); s != "" {
		if !modelNumberMayBe(s, text[len(s):]) {
			return api.Tok{}, 0, api.ErrLit
		}
		return number(s, 0), len(s), api.OK
	}
	if text[0] == '"' {
		s, length, err := modelString(text)
		return str(s, 0), length, err
	}
	if s := modelSign.FindString(text); s != "" {
		return sign(s, 0), len(s), api.OK
	}
	return api.Tok{}, 0, api.ErrChar
}

// modelScan is what Scan is to answer of a text that is not too long.
func modelScan(text string) ([]api.Tok, int, api.Errno) {
	var toks []api.Tok
	for at := 0; ; {
		at += len(modelSkip.FindString(text[at:]))
		tok, length, err := modelNext(text[at:])
		if err != api.OK {
			return nil, at + length, err
		}
		tok.At = at
		at += length
		toks = append(toks, tok)
		if tok.Kind == api.TEnd {
			return toks, 0, api.OK
		}
	}
}

// likeModel holds Scan against the model.
func likeModel(t *testing.T, text string) {
	t.Helper()
	toks, at, err := modelScan(text)
	if err != api.OK {
		scansNot(t, text, at, err)
		return
	}
	scans(t, text, toks...)
}

// texts calls for each text of so many bytes at most, of these bytes.
func texts(bytes string, most int, call func(text string)) {
	row := []string{""}
	for {
		for _, text := range row {
			call(text)
		}
		if most == 0 {
			return
		}
		most--
		var longer []string
		for _, text := range row {
			for i := range len(bytes) {
				longer = append(longer, text+bytes[i:i+1])
			}
		}
		row = longer
	}
}

func TestScanAllShortTexts(t *testing.T) {
	likeModelAndBack := func(text string) {
		likeModel(t, text)
		backAgain(t, text)
	}
	texts("a_0 1.-=<!\n\"&", 4, likeModelAndBack)
	texts("-\n a", 7, likeModelAndBack)
	texts(".=<>!", 6, likeModelAndBack)
	texts("\"\\xn4F\n\xff", 5, func(text string) { likeModelAndBack(`"` + text) })
}

// TestScanOtherBytes puts every byte at every place of some texts.
func TestScanOtherBytes(t *testing.T) {
	for _, text := range []string{
		"PATTERN SEQ(T a, !(U n), T+ b[]) -- so\nWHERE next { [s], b[i].x >= b[i-1].x }",
		`"a\x4fb\"\\\n\t" ..<=!=12`, "9223372036854775807 a_B9",
	} {
		for at := range len(text) {
			for c := range 256 {
				one := string([]byte{byte(c)})
				for _, other := range []string{text[:at] + one + text[at+1:], text[:at] + one + text[at:], text[:at] + text[at+1:]} {
					likeModel(t, other)
					backAgain(t, other)
				}
			}
		}
	}
}
