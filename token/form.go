package token

import (
	"refrain/api"
	"refrain/value"
)

// maxDigits is how many digits the greatest number has.
const maxDigits = 19

// isWord tells whether a text is a word that is not too long.
func isWord(text string) bool {
	// The bound comes first: a token may have a text of any length.
	if text == "" || len(text) > api.MaxName {
		return false
	}
	return wordLength(text) == len(text) && !isDigit(rune(text[0]))
}

// isNumber tells whether a text is a number in its one form, and not too great.
func isNumber(text string) bool {
	if len(text) > maxDigits {
		return false
	}
	for _, c := range text {
		if !isDigit(c) {
			return false
		}
	}
	_, err := value.Read(text)
	return err == api.OK
}

// wordLength tells how many bytes of the text's beginning are letters, digits and `_`.
func wordLength(text string) int {
	for at, c := range text {
		if !isDigit(c) && !isLetter(c) {
			return at
		}
	}
	return len(text)
}

// signLength tells how many bytes of the text's beginning make a sign, the longest one that could stand there: none, if there is none. The text is not empty.
func signLength(text string) int {
	second := byte('=')
	switch text[0] {
	case '.':
		second = '.'
		fallthrough
	case '!', '<', '>':
		if len(text) > 1 && text[1] == second {
			return 2
		}
		fallthrough
	case '(', ')', '[', ']', '{', '}', ',', '+', '-', '*', '=':
		return 1
	}
	return 0
}

func isDigit(c rune) bool { return c >= '0' && c <= '9' }

// isLetter takes `_` for a letter: it may stand wherever a letter may.
func isLetter(c rune) bool {
	return c >= 'a' && c <= 'z' || c >= 'A' && c <= 'Z' || c == '_'
}

func isBlank(c byte) bool { return c == ' ' || c == '\t' || c == '\n' || c == '\r' }
