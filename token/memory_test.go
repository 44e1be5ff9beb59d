package token_test

import (
	"slices"
	"testing"
	"unsafe"

	"refrain/api"
	"refrain/token"
)

// within tells whether a text's bytes lie in those of another one.
func within(part, whole string) bool {
	if part == "" || whole == "" {
		return false
	}
	p, w := uintptr(unsafe.Pointer(unsafe.StringData(part))), uintptr(unsafe.Pointer(unsafe.StringData(whole)))
	return p >= w && p < w+uintptr(len(whole))
}

func TestWhatIsHandedInStaysAsItIs(t *testing.T) {
	toks := []api.Tok{word("a", 7), sign("=", 7), number("5", 7), str("s\"", 7), end(7), word("a-b", 7), end(7)}
	was := slices.Clone(toks)
	for n := range len(toks) + 1 {
		token.Spell(toks[:n]...)
		token.Spell(toks[n:]...)
	}
	if !slices.Equal(toks, was) {
		t.Errorf("P5.4: what was handed in is now %v", toks)
	}
}

func TestScanGivesNewMemory(t *testing.T) {
	for _, text := range []string{"", "a", "a b", "a.b >= 12", `x = "some string" -- and more`} {
		want, _, _ := modelScan(text)
		one, _, _ := token.Scan(text)
		other, _, _ := token.Scan(text)
		// What is written into an answer and its spare room, or appended to it, is in no other one.
		_ = append(one, word("x", 99), word("x", 99))
		clear(one[:cap(one)])
		if !slices.Equal(other, want) {
			t.Errorf("P5.4: two answers of Scan share memory: %v", other)
		}
		if third, _, _ := token.Scan(text); !slices.Equal(third, want) {
			t.Errorf("P5.4: what was written into an answer is in a later one: %v", third)
		}
	}
}

// TestTextsAreNotKept sees that no text of an answer is a piece of one that was handed in: it would keep the whole.
func TestTextsAreNotKept(t *testing.T) {
	text := `PATTERN name (12 .. "some string" <= "a\n")`
	toks, _, _ := token.Scan(text)
	if len(toks) != 10 {
		t.Fatalf("P5.1: Scan(%q) = %v", text, toks)
	}
	for _, tok := range toks {
		if within(tok.Text, text) {
			t.Errorf("P5.4: the text of the token %v is a piece of the text", tok)
		}
	}
	for _, tok := range []api.Tok{word(text[8:12], 0), number(text[14:16], 0), sign(text[17:19], 0), str(text[21:32], 0)} {
		if spelled, err := token.Spell(tok); within(spelled, text) || err != api.OK {
			t.Errorf("P5.4: Spell(%v) = %q, %d, a piece of a token's text", tok, spelled, err)
		}
	}
}

// TestAnswersHangOnArgumentsAlone asks the same behind calls of all kinds.
func TestAnswersHangOnArgumentsAlone(t *testing.T) {
	for range 3 {
		token.Scan(`a "b`)
		token.Scan("-- a")
		token.Spell(str("a", 0), word("", 0))
		token.Word("SEQ")
		scans(t, "a 1", word("a", 0), number("1", 2), end(3))
		scansNot(t, "a &", 2, api.ErrChar)
		spells(t, "a = 5", word("a", 0), sign("=", 0), number("5", 0))
		spellsNot(t, api.ErrArg, number("05", 0))
		if token.Word("seq") || !token.Word("SEQ") {
			t.Error("P5.4: Word answers otherwise behind other calls")
		}
	}
}
