package parse

import (
	"strconv"

	"refrain/api"
	"refrain/token"
)

// reader goes through the tokens that are ahead of it; the last one, the end, it never goes by. At the first fault it gives up.
type reader struct {
	toks []api.Tok
}

// fault is what a reader panics with when it gives up: nothing else panics here.
type fault struct {
	err api.Errno
	at  int
}

func over(text string) *reader {
	toks, at, err := token.Scan(text)
	if err != api.OK {
		panic(fault{err, at})
	}
	return &reader{toks}
}

// at tells the place of the token ahead.
func (r *reader) at() int { return r.toks[0].At }

// refuse gives up: another token is wanted than the one ahead.
func (r *reader) refuse() { panic(fault{api.ErrWant, r.at()}) }

// is tells whether this word or sign is ahead. A string may have the same text.
func (r *reader) is(text string) bool {
	tok := r.toks[0]
	return tok.Text == text && (tok.Kind == api.TWord || tok.Kind == api.TSign)
}

// passes goes by this word or sign, if it is ahead, and tells whether it was.
func (r *reader) passes(text string) bool {
	is := r.is(text)
	if is {
		r.toks = r.toks[1:]
	}
	return is
}

// pass goes by these words and signs, which must be ahead.
func (r *reader) pass(texts ...string) {
	for _, text := range texts {
		if !r.passes(text) {
			r.refuse()
		}
	}
}

// take goes by a token that must be of this kind, and gives its text.
func (r *reader) take(kind int) string {
	tok := r.toks[0]
	if tok.Kind != kind {
		r.refuse()
	}
	r.toks = r.toks[1:]
	return tok.Text
}

func (r *reader) name() string {
	if token.Word(r.toks[0].Text) {
		r.refuse()
	}
	return r.take(api.TWord)
}

func (r *reader) number() int64 {
	// No token is a number that is too great.
	n, _ := strconv.ParseInt(r.take(api.TInt), 10, 64)
	return n
}

func (r *reader) end() {
	if r.toks[0].Kind != api.TEnd {
		r.refuse()
	}
}

// list reads an element, and one more behind each comma.
func (r *reader) list(element func()) {
	element()
	for r.passes(",") {
		element()
	}
}
