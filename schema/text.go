package schema

import (
	"strings"

	"refrain/api"
)

const (
	declares = "TYPE"
	signs    = "(),"
	blanks   = " \t\n\r"
)

// The kinds' words; a number that is no kind has none.
var kindWords = [...]string{api.KInt: "INT", api.KStr: "STR", api.KBool: "BOOL"}

// kindWord tells a kind's word: "", if it is no kind.
func kindWord(kind int) string {
	if kind < 0 || kind >= len(kindWords) {
		return ""
	}
	return kindWords[kind]
}

// wordKind tells the kind of a word: 0, if it is none's (as of "", which stands at 0).
func wordKind(word string) int {
	for kind, w := range kindWords {
		if w == word {
			return kind
		}
	}
	return 0
}

// Print writes a declaration.
func Print(t api.Type) (string, api.Errno) {
	if err := fault(t); err != api.OK {
		return "", err
	}
	attrs := make([]string, 0, len(t.Attrs))
	for _, a := range t.Attrs {
		attrs = append(attrs, a.Name+" "+kindWord(a.Kind))
	}
	return declares + " " + t.Name + " (" + strings.Join(attrs, ", ") + ")", api.OK
}

// Parse reads a declaration; of an error the place too.
func Parse(text string) (api.Type, int, api.Errno) {
	if len(text) > api.MaxText {
		return api.Type{}, 0, api.ErrLong
	}
	r := reader{text: text}
	r.move(0)
	t, err := r.declaration()
	if err != api.OK {
		return api.Type{}, r.at, err
	}
	return own(t), 0, api.OK
}

// reader goes through a text; at is the place of the token ahead, or the text's length. It goes by a token only when that one is right, so that at is the fault's place, too.
type reader struct {
	text string
	at   int
}

// move goes some bytes on, and by the blanks behind them.
func (r *reader) move(bytes int) {
	rest := r.text[r.at+bytes:]
	r.at = len(r.text) - len(strings.TrimLeft(rest, blanks))
}

// ahead tells the token ahead: "" at the text's end, and at a byte that is no part of any token.
func (r *reader) ahead() string {
	rest := r.text[r.at:]
	if n := wordLength(rest); n > 0 {
		return rest[:n]
	}
	if rest != "" && strings.IndexByte(signs, rest[0]) >= 0 {
		return rest[:1]
	}
	return ""
}

// pass goes by this token, if it is the one ahead.
func (r *reader) pass(token string) bool {
	if r.ahead() != token {
		return false
	}
	r.move(len(token))
	return true
}

func (r *reader) declaration() (api.Type, api.Errno) {
	if !r.pass(declares) {
		return api.Type{}, api.ErrDecl
	}
	name, err := r.typeName()
	if err != api.OK {
		return api.Type{}, err
	}
	attrs, err := r.attributes()
	if err != api.OK {
		return api.Type{}, err
	}
	if r.at != len(r.text) {
		return api.Type{}, api.ErrDecl
	}
	return api.Type{Name: name, Attrs: attrs}, api.OK
}

func (r *reader) typeName() (string, api.Errno) {
	name := r.ahead()
	switch {
	case !isWord(name):
		return "", api.ErrDecl
	case !Name(name):
		return "", api.ErrName
	}
	r.move(len(name))
	return name, api.OK
}

// attributes reads them all, with their parentheses.
func (r *reader) attributes() ([]api.Attr, api.Errno) {
	if !r.pass("(") {
		return nil, api.ErrDecl
	}
	var attrs []api.Attr
	if r.pass(")") {
		return attrs, api.OK
	}
	for {
		a, err := r.attribute(attrs)
		if err != api.OK {
			return nil, err
		}
		attrs = append(attrs, a)
		if r.pass(")") {
			return attrs, api.OK
		}
		if !r.pass(",") {
			return nil, api.ErrDecl
		}
	}
}

// attribute reads the one that follows on those read so far.
func (r *reader) attribute(read []api.Attr) (api.Attr, api.Errno) {
	name := r.ahead()
	switch {
	case !isWord(name):
		return api.Attr{}, api.ErrDecl
	case len(read) == api.MaxAttrs:
		return api.Attr{}, api.ErrLong
	case !attrName(name):
		return api.Attr{}, api.ErrName
	case has(read, name):
		return api.Attr{}, api.ErrDup
	}
	r.move(len(name))
	word := r.ahead()
	kind := wordKind(word)
	if kind == 0 {
		return api.Attr{}, api.ErrDecl
	}
	r.move(len(word))
	return api.Attr{Name: name, Kind: kind}, api.OK
}
