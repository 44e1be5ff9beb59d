package token_test

import (
	"math"
	"slices"
	"strings"
	"testing"

	"refrain/api"
	"refrain/schema"
	"refrain/token"
)

// spells holds Spell against the text that it is to answer, and Scan of that against the tokens.
func spells(t *testing.T, text string, toks ...api.Tok) {
	t.Helper()
	got, err := token.Spell(toks...)
	if got != text || err != api.OK {
		t.Errorf("P5.2: Spell(%s) = %.80q, %d, want %.80q", short(toks), got, err, text)
		return
	}
	if back, _, err := token.Scan(got); !slices.EqualFunc(back, ended(toks), alike) || err != api.OK {
		t.Errorf("P5.2: Scan of Spell(%s) = %s, %d", short(toks), short(back), err)
	}
}

func spellsNot(t *testing.T, fault api.Errno, toks ...api.Tok) {
	t.Helper()
	if text, err := token.Spell(toks...); text != "" || err != fault {
		t.Errorf("P5.2: Spell(%s) = %.80q, %d, want %d", short(toks), text, err, fault)
	}
}

// alike tells whether two tokens are the same but for their places.
func alike(a, b api.Tok) bool { return a.Kind == b.Kind && a.Text == b.Text }

// ended gives the tokens with TEnd behind them.
func ended(toks []api.Tok) []api.Tok {
	if n := len(toks); n > 0 && toks[n-1].Kind == api.TEnd {
		return toks
	}
	return append(slices.Clone(toks), end(0))
}

// backAgain sees that the text that Spell makes of a text's tokens has the same tokens.
func backAgain(t *testing.T, text string) {
	t.Helper()
	toks, _, err := token.Scan(text)
	if err != api.OK {
		return
	}
	spelled, err := token.Spell(toks...)
	if err == api.ErrLong && spelled == "" {
		return
	}
	again, at, e := token.Scan(spelled)
	if err != api.OK || !slices.EqualFunc(again, toks, alike) || at != 0 || e != api.OK {
		t.Errorf("P5.2: Scan(%.80q) = %s, Spell of it = %.80q, %d, Scan of that = %s, %d, %d", text, short(toks), spelled, err, short(again), at, e)
	}
}

func TestSpell(t *testing.T) {
	spells(t, "")
	spells(t, "", end(0))
	spells(t, "a", word("a", 0))
	spells(t, "a", word("a", 0), end(0))
	spells(t, "- - 5", sign("-", 0), sign("-", 0), number("5", 0))
	spells(t, "- - 5", sign("-", 0), sign("-", 0), number("5", 0), end(0))
	spells(t, `"\"\xffA"`, str("\"\xffA", 0))
	spells(t, `""`, str("", 0), end(0))
	spells(t, `"" "" ""`, str("", 0), str("", 0), str("", 0))
	spells(t, "a b 1 2 . . < =", word("a", 0), word("b", 0), number("1", 0), number("2", 0), sign(".", 0), sign(".", 0), sign("<", 0), sign("=", 0))
	spells(t, `PATTERN SEQ ( T a ) "--" -`, word("PATTERN", 0), word("SEQ", 0), sign("(", 0), word("T", 0), word("a", 0), sign(")", 0), str("--", 0), sign("-", 0))
	spells(t, `"\\\n\t\x00\x1f ~\x7f\x0d"`, str("\\\n\t\x00\x1f ~\x7f\r", 0))
	spells(t, "0 9223372036854775807", number("0", 0), number("9223372036854775807", 0))
	spells(t, ones("w", 32)+" _9", word(ones("w", 32), 0), word("_9", 0))
	for _, s := range signs() {
		spells(t, s, sign(s, 0))
	}
}

func TestSpellDoesNotLookAtPlaces(t *testing.T) {
	for _, at := range []int{-1, 1, 99, 5000, math.MinInt64, math.MaxInt64} {
		spells(t, `a "s" 1 =`, word("a", at), str("s", at), number("1", at), sign("=", -at), end(at))
	}
}

// TestSpellEveryByte writes every byte of a string.
func TestSpellEveryByte(t *testing.T) {
	const digits = "0123456789abcdef"
	for i := range 256 {
		c := byte(i)
		char := string([]byte{c})
		switch {
		case c == '"', c == '\\':
			char = `\` + char
		case c == '\n':
			char = `\n`
		case c == '\t':
			char = `\t`
		case c < 0x20, c > 0x7e:
			char = `\x` + digits[c/16:c/16+1] + digits[c%16:c%16+1]
		}
		s := string([]byte{c})
		spells(t, `"`+char+`"`, str(s, 0))
		spells(t, `"a`+char+char+`4" x`, str("a"+s+s+"4", 0), word("x", 0))
	}
}

// wrongTokens are tokens that cannot be.
func wrongTokens() []api.Tok {
	list := []api.Tok{{}, {Text: "a"}, {Kind: api.TEnd, Text: "x"}, {Kind: api.TEnd, Text: " "}, str(ones("s", 257), 0), str(ones("s", 1<<20), 0)}
	for _, kind := range []int{0, -1, 6, 7, 256 + api.TWord, 1<<32 + api.TEnd, math.MinInt64, math.MaxInt64} {
		list = append(list, api.Tok{Kind: kind}, api.Tok{Kind: kind, Text: "a"}, api.Tok{Kind: kind, Text: "1"})
	}
	for _, s := range []string{"", " ", "a ", " a", "a b", "a-b", "a.", "1", "1a", "9_", ".", "\"a\"", "--", "a--", "a\n", "é", "a\x00", "\xff", ones("w", 33), ones("w", 4097), ones("w", 1<<20)} {
		list = append(list, word(s, 0))
	}
	for _, s := range []string{"", " ", "-1", "+1", "05", "00", "1 ", " 1", "1.5", "1a", "a", "1_", "_1", "TRUE", "\"1\"", "1--", "-0", "9223372036854775808", "-9223372036854775808", "18446744073709551616", "18446744073709551617", "１", "1\x00", ones("0", 19), ones("1", 20), ones("9", 4096), ones("9", 1<<20)} {
		list = append(list, number(s, 0))
	}
	for _, s := range []string{"", " ", "--", "...", "==", "<<", "<>", "=<", "=>", "! =", ". .", "()", "&", "a", "1", "\"", "= ", " =", "!!", "=!", ".=", "\xff", "≤", "<=\x00", ones(".", 1<<20)} {
		list = append(list, sign(s, 0))
	}
	return list
}

func TestSpellRefusesTokensThatCannotBe(t *testing.T) {
	a, dots := word("a", 0), slices.Repeat([]api.Tok{sign(".", 0)}, 5000)
	for _, tok := range wrongTokens() {
		spellsNot(t, api.ErrArg, tok)
		spellsNot(t, api.ErrArg, tok, a)
		spellsNot(t, api.ErrArg, a, tok)
		spellsNot(t, api.ErrArg, a, tok, end(0))
		// It is told ahead of a text that is too long.
		spellsNot(t, api.ErrArg, append(slices.Clone(dots), tok)...)
		spellsNot(t, api.ErrArg, append([]api.Tok{tok}, dots...)...)
	}
	spellsNot(t, api.ErrArg, end(0), a)
	spellsNot(t, api.ErrArg, end(0), end(0))
	spellsNot(t, api.ErrArg, a, end(0), a)
	spellsNot(t, api.ErrArg, a, end(0), end(0))
	spellsNot(t, api.ErrArg, slices.Concat(dots, []api.Tok{end(0)}, dots)...)
	spellsNot(t, api.ErrArg, slices.Concat(dots, []api.Tok{end(0), end(0)})...)
}

// TestSpellTakesWhatScanGives asks for each short text and kind whether such a token can be.
func TestSpellTakesWhatScanGives(t *testing.T) {
	texts("a_01.-=<!\" ", 3, func(text string) {
		toks, _, err := modelScan(text)
		for _, kind := range []int{api.TWord, api.TInt, api.TSign} {
			tok := api.Tok{Kind: kind, Text: text, At: 9}
			if err == api.OK && len(toks) == 2 && alike(toks[0], tok) {
				spells(t, text, tok)
			} else {
				spellsNot(t, api.ErrArg, tok)
			}
		}
	})
}

func TestSpellBound(t *testing.T) {
	dots := func(n int) []api.Tok { return slices.Repeat([]api.Tok{sign(".", 0)}, n) }
	spells(t, ones(". ", 2047)+".", dots(2048)...)
	spells(t, ones(". ", 2047)+".", append(dots(2048), end(0))...)
	spells(t, ones(". ", 2047)+"..", append(dots(2047), sign("..", 0))...)
	spellsNot(t, api.ErrLong, dots(2049)...)
	spellsNot(t, api.ErrLong, append(dots(2049), end(0))...)
	spellsNot(t, api.ErrLong, append(dots(2047), sign("..", 0), word("a", 0))...)
	spellsNot(t, api.ErrLong, append(dots(2047), number("123", 0))...)
	spellsNot(t, api.ErrLong, dots(1<<20)...)
	// Quotes and backslashes are bytes of the text, too.
	s, x := str(ones("s", 256), 0), str(ones("\xff", 256), 0)
	spells(t, ones(`"`+ones("s", 256)+`" `, 15)+`"`+ones("s", 209)+`"`, append(slices.Repeat([]api.Tok{s}, 15), str(ones("s", 209), 0))...)
	spellsNot(t, api.ErrLong, append(slices.Repeat([]api.Tok{s}, 15), str(ones("s", 210), 0))...)
	spellsNot(t, api.ErrLong, append(slices.Repeat([]api.Tok{s}, 15), str(ones("s", 208)+`"`, 0))...)
	spells(t, ones(`"`+ones(`\xff`, 256)+`" `, 3)+`"`+ones(`\xff`, 253)+`a"`, x, x, x, str(ones("\xff", 253)+"a", 0))
	spellsNot(t, api.ErrLong, x, x, x, str(ones("\xff", 253)+"aa", 0))
	spellsNot(t, api.ErrLong, x, x, x, x)
}

// theWords are those of the language.
func theWords() []string {
	return strings.Fields("PATTERN SEQ PARTITION BY WHERE WITHIN RETURN AND OR NOT TRUE FALSE TYPE INT STR BOOL")
}

func TestWord(t *testing.T) {
	for _, w := range theWords() {
		if !token.Word(w) || schema.Name(w) {
			t.Errorf("P5.3: Word(%q) = %v, and Name of it is %v", w, token.Word(w), schema.Name(w))
		}
		for _, s := range []string{strings.ToLower(w), w[:1] + strings.ToLower(w[1:]), w + "_", "_" + w, w + w, w + " ", " " + w, w + "\x00", w[1:], w[:len(w)-1]} {
			if token.Word(s) && !slices.Contains(theWords(), s) {
				t.Errorf("P5.3: Word(%q) = true", s)
			}
		}
		// Scan takes them for words like others.
		scans(t, w+" "+w, word(w, 0), word(w, 1+len(w)), end(1+2*len(w)))
	}
	for _, s := range []string{"", " ", "any", "next", "strict", "count", "sum", "min", "max", "i", "first", "last", "time", "a", "1", ".", "\xff", "IN", "SEQ(", "AND OR", ones("SEQ", 1<<20)} {
		if token.Word(s) {
			t.Errorf("P5.3: Word(%.40q) = true", s)
		}
	}
}
