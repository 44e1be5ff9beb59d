package schema

import "refrain/api"

// The words of the language, of which none is a name.
var reserved = [...]string{
	"PATTERN", "SEQ", "PARTITION", "BY", "WHERE", "WITHIN", "RETURN",
	"AND", "OR", "NOT", "TRUE", "FALSE",
	"TYPE", "INT", "STR", "BOOL",
}

// Name tells whether a text may be a name.
func Name(s string) bool {
	// The bound comes first: a text of any length may be asked about.
	if len(s) > api.MaxName || !isWord(s) || isDigit(rune(s[0])) {
		return false
	}
	for _, word := range reserved {
		if s == word {
			return false
		}
	}
	return true
}

// attrName tells whether an attribute may have this name: not that of the time, which each event has beside its attributes.
func attrName(s string) bool { return Name(s) && s != api.TimeAttr }

// isWord tells whether a text is one word: letters, digits and `_`, at least one.
func isWord(s string) bool { return s != "" && wordLength(s) == len(s) }

// wordLength tells how many bytes of the text's beginning make a word.
func wordLength(s string) int {
	for at, c := range s {
		if !isDigit(c) && !isLetter(c) {
			return at
		}
	}
	return len(s)
}

func isDigit(c rune) bool { return c >= '0' && c <= '9' }

func isLetter(c rune) bool {
	return c >= 'a' && c <= 'z' || c >= 'A' && c <= 'Z' || c == '_'
}
