package csv

import (
	"strings"

	"refrain/api"
)

// reader goes through a text; at is the place of the byte ahead. With a fault it stands at the fault's place.
type reader struct {
	text string
	at   int
}

// pass goes by this text, if it is the one ahead.
func (r *reader) pass(text string) bool {
	if !strings.HasPrefix(r.text[r.at:], text) {
		return false
	}
	r.at += len(text)
	return true
}

// row reads a row with its end.
func (r *reader) row() ([]string, api.Errno) {
	var row []string
cells:
	for {
		open := r.at
		if !r.pass(quote) {
			row = append(row, r.plain())
			if r.pass(comma) {
				continue
			}
			break
		}
		var cell []byte
		for r.at < len(r.text) {
			// Two quotes are asked for first: they stand for one byte of the cell.
			if r.pass(quote + quote) {
				cell = append(cell, quote...)
				continue
			}
			if !r.pass(quote) {
				cell = append(cell, r.text[r.at])
				r.at++
				continue
			}
			row = append(row, string(cell))
			if r.pass(comma) {
				continue cells
			}
			break cells
		}
		r.at = open
		return nil, api.ErrQuote
	}
	return row, r.end()
}

// plain reads the cell ahead, which has no quotes. It is copied: a cell that is kept shall not keep the text.
func (r *reader) plain() string {
	rest := r.text[r.at:]
	length := strings.IndexAny(rest, special)
	if length < 0 {
		length = len(rest)
	}
	r.at += length
	return strings.Clone(rest[:length])
}

// end goes by a row's end, or tells what is wrong with the byte that stands in its place.
func (r *reader) end() api.Errno {
	switch {
	case r.at == len(r.text), r.pass("\n"), r.pass(rowEnd):
		return api.OK
	case r.text[r.at] == '\r':
		return api.ErrRow
	}
	return api.ErrQuote
}
