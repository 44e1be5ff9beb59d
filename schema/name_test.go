package schema_test

import (
	"strings"
	"testing"

	"refrain/schema"
)

const (
	letters = "abcdefghijklmnopqrstuvwxyzABCDEFGHIJKLMNOPQRSTUVWXYZ_"
	digits  = "0123456789"
)

// reserved are the words that are no names.
func reserved() []string {
	return strings.Fields("PATTERN SEQ PARTITION BY WHERE WITHIN RETURN AND OR NOT TRUE FALSE TYPE INT STR BOOL")
}

func TestName(t *testing.T) {
	for _, s := range []string{
		"Trade", "_", "_9", "__", "a", "Z", "time", "TIME", "type", "Pattern", "x9y", "A_b_3", "TYPES", "INT_", "_INT", "SEQ1", "NOTA", "nOT",
		strings.Repeat("n", 31), strings.Repeat("N", 32), "_" + strings.Repeat("9", 31),
	} {
		if !schema.Name(s) {
			t.Errorf("P2.1: Name(%q) = false", s)
		}
	}
	for _, s := range []string{
		"", " ", "9", "9a", "0_", "a-b", "a.b", "a b", " a", "a ", "a\n", "a\x00", "\x00", "a,", "(a", "é", "aé", "\xc3", "a\xff", "Ａ", "a１", "a٣", "ſ",
		strings.Repeat("n", 33), strings.Repeat("9", 33), strings.Repeat("a", 1<<20), strings.Repeat("\xff", 32),
	} {
		if schema.Name(s) {
			t.Errorf("P2.1: Name(%.40q) = true", s)
		}
	}
}

func TestWordsAreNoNames(t *testing.T) {
	for _, w := range reserved() {
		if schema.Name(w) {
			t.Errorf("P2.1: Name(%q) = true", w)
		}
		for _, s := range []string{strings.ToLower(w), w[:1] + strings.ToLower(w[1:]), w + "_", "_" + w, w + w, w + "0"} {
			if !schema.Name(s) {
				t.Errorf("P2.1: Name(%q) = false", s)
			}
		}
	}
}

func TestEveryByteOfAName(t *testing.T) {
	for i := range 256 {
		c := string([]byte{byte(i)})
		letter, digit := strings.Contains(letters, c), strings.Contains(digits, c)
		if got := schema.Name(c); got != letter {
			t.Errorf("P2.1: Name(%q) = %v", c, got)
		}
		if got := schema.Name(c + "a"); got != letter {
			t.Errorf("P2.1: Name(%q) = %v", c+"a", got)
		}
		if got := schema.Name("a" + c); got != (letter || digit) {
			t.Errorf("P2.1: Name(%q) = %v", "a"+c, got)
		}
		if got := schema.Name("a" + c + "b"); got != (letter || digit) {
			t.Errorf("P2.1: Name(%q) = %v", "a"+c+"b", got)
		}
	}
}
