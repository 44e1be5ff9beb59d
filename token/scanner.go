package token

import (
	"strings"

	"refrain/api"
)

// The states of a scanner: what it stands ahead of.
const (
	atNothing = iota // that may stand in a text
	atBlank
	atComment
	atWord
	atNumber
	atString
	atSign
	atEnd
)

const (
	comment = "--"

	// The letters that stand for a byte behind a backslash, and these bytes, in one order.
	letters = `"\nt`
	escaped = "\"\\\n\t"
)

// scanner goes through a text; at is the place of the byte ahead. With a fault it stands at the fault's place.
type scanner struct {
	text string
	at   int
}

// state tells what the scanner stands ahead of.
func (s *scanner) state() int {
	rest := s.text[s.at:]
	switch {
	case rest == "":
		return atEnd
	case isBlank(rest[0]):
		return atBlank
	case strings.HasPrefix(rest, comment): // ahead of the signs: it begins with one
		return atComment
	case isLetter(rune(rest[0])):
		return atWord
	case isDigit(rune(rest[0])):
		return atNumber
	case rest[0] == '"':
		return atString
	case signLength(rest) > 0:
		return atSign
	}
	return atNothing
}

// next reads the next token.
func (s *scanner) next() (api.Tok, api.Errno) {
again:
	rest := s.text[s.at:]
	switch s.state() {
	case atBlank:
		s.at++
		goto again
	case atComment:
		s.passComment()
		goto again
	case atWord:
		word := rest[:wordLength(rest)]
		if !isWord(word) {
			return api.Tok{}, api.ErrLit
		}
		return s.take(api.TWord, word), api.OK
	case atNumber:
		// With what may not stand right behind the digits, it is no number.
		number := rest[:wordLength(rest)]
		if !isNumber(number) {
			return api.Tok{}, api.ErrLit
		}
		return s.take(api.TInt, number), api.OK
	case atString:
		return s.quoted()
	case atSign:
		return s.take(api.TSign, rest[:signLength(rest)]), api.OK
	case atEnd:
		return s.take(api.TEnd, ""), api.OK
	}
	return api.Tok{}, api.ErrChar
}

// passComment goes by a comment, up to the end of its line.
func (s *scanner) passComment() {
	length := strings.IndexByte(s.text[s.at:], '\n')
	if length < 0 {
		length = len(s.text) - s.at
	}
	s.at += length
}

// take goes by the bytes ahead, which are a token. They are copied: a token that is kept shall not keep the text.
func (s *scanner) take(kind int, bytes string) api.Tok {
	tok := api.Tok{Kind: kind, Text: strings.Clone(bytes), At: s.at}
	s.at += len(bytes)
	return tok
}

// quoted reads the string ahead.
func (s *scanner) quoted() (api.Tok, api.Errno) {
	open := s.at
	var bytes []byte
	for s.at++; s.at < len(s.text); {
		if s.text[s.at] == '"' {
			s.at++
			return api.Tok{Kind: api.TStr, Text: string(bytes), At: open}, api.OK
		}
		c, size, err := character(s.text[s.at:])
		if err == api.ErrOpen {
			break
		}
		if err != api.OK {
			return api.Tok{}, err
		}
		if len(bytes) == api.MaxStr {
			s.at = open
			return api.Tok{}, api.ErrLit
		}
		bytes = append(bytes, c)
		s.at += size
	}
	s.at = open
	return api.Tok{}, api.ErrOpen
}

// character tells the byte for which a string's first character stands, and how many bytes it takes. The text is not empty.
func character(text string) (byte, int, api.Errno) {
	switch {
	case text[0] < ' ' || text[0] > '~':
		return 0, 0, api.ErrChar
	case text[0] != '\\':
		return text[0], 1, api.OK
	case len(text) == 1:
		return 0, 0, api.ErrOpen
	case text[1] == 'x':
		return hexadecimal(text)
	}
	i := strings.IndexByte(letters, text[1])
	if i < 0 {
		return 0, 0, api.ErrLit
	}
	return escaped[i], 2, api.OK
}

// hexadecimal is character of a text that begins with `\x`.
func hexadecimal(text string) (byte, int, api.Errno) {
	const begin, end = 2, 4
	var c byte
	for i := begin; i < end; i++ {
		if i == len(text) {
			return 0, 0, api.ErrOpen
		}
		digit, ok := hexDigit(text[i])
		if !ok {
			return 0, 0, api.ErrLit
		}
		c = c<<4 | digit
	}
	return c, end, api.OK
}

func hexDigit(c byte) (byte, bool) {
	switch {
	case c >= '0' && c <= '9':
		return c - '0', true
	case c >= 'a' && c <= 'f':
		return c - 'a' + 10, true
	case c >= 'A' && c <= 'F':
		return c - 'A' + 10, true
	}
	return 0, false
}
