package parse_test

import (
	"math/rand/v2"
	"slices"
	"strings"
	"testing"

	"refrain/api"
	"refrain/parse"
	"refrain/token"
)

// holdsExpr holds Expr against the model.
func holdsExpr(t *testing.T, text string) api.Errno {
	t.Helper()
	toks, at, fault := modelFault("expr", text)
	if fault != api.OK {
		readsNot(t, fault, text[:at]+"@"+text[at:])
	} else {
		reads(t, text, modelExpr(toks))
	}
	return fault
}

// holdsQuery holds Query against the model.
func holdsQuery(t *testing.T, text string) api.Errno {
	t.Helper()
	toks, at, fault := modelFault("query", text)
	got, spots, place, err := parse.Query(text)
	var q api.Query
	var s api.Spots
	if fault == api.OK {
		q, s = modelQuery(toks)
	}
	if !sameQuery(got, q) || !sameSpots(spots, s) || place != at || err != fault {
		t.Errorf("P7.1: Query(%.300q) = %s, %v, %d, %d, want %s, %v, %d, %d", text, short(got), spots, place, err, short(q), s, at, fault)
	}
	return fault
}

// TestAllShortExpressions goes from what may be an expression's beginning to all tokens behind it.
func TestAllShortExpressions(t *testing.T) {
	words := []string{"1", `"1"`, "a", "sum", "count", "i", "first", "(", ")", "[", "]", ".", "..", "-", "*", "<", "AND", "NOT", "TRUE", ","}
	whole, tried := 0, 0
	var grow func(text string, stacks []*stack, length int)
	grow = func(text string, stacks []*stack, length int) {
		if t.Failed() { // one is enough to tell
			return
		}
		tried++
		if length == 0 {
			if holdsExpr(t, text) == api.OK {
				whole++
			}
			return
		}
		if len(language.behind(stacks, api.Tok{Kind: api.TEnd})) > 0 {
			holdsExpr(t, text)
		} else {
			readsNot(t, api.ErrWant, text+"@")
		}
		for _, word := range words {
			toks, _, _ := token.Scan(word)
			if next := language.behind(stacks, toks[0]); len(next) > 0 {
				grow(text+word+" ", next, length-1)
			} else {
				readsNot(t, api.ErrWant, text+"@"+word, text+"@"+word+" 1")
			}
		}
	}
	grow("", language.begin("expr"), 6)
	if !t.Failed() && (tried < 50_000 || whole < 1000) {
		t.Errorf("only %d rows of tokens were tried, %d of them expressions", tried, whole)
	}
}

// grown gives the words of something of that kind, chosen by chance; no more brackets are opened than the room says.
func grown(r *rand.Rand, symbol string, room int) []string {
	pick := func(l ...string) []string { return []string{l[r.IntN(len(l))]} }
	rows, ok := language[symbol]
	switch {
	case symbol == "NAME":
		return pick(append(softWords(), "a", "b", "T", "x", "time")...)
	case symbol == "INT":
		return pick("0", "1", "2", "10", "4611686018427387904", "9223372036854775807")
	case symbol == "STRING":
		return pick(`""`, `"1"`, `"("`, `"\n\x00"`, `","`, `"AND"`, `"a\"b"`)
	case !ok:
		return pick(strings.Trim(symbol, `"`))
	case symbol == "prime" && room == 0:
		rows = rows[:4]
	}
	row := rows[r.IntN(len(rows))]
	if rows[len(rows)-1] == nil && r.IntN(4) > 0 { // else there would be no end
		row = nil
	}
	var words []string
	for _, next := range row {
		left := room
		if symbol == "prime" {
			left--
		}
		words = append(words, grown(r, next, left)...)
	}
	return words
}

// joined gives words as a text, with some blanks and comments between.
func joined(r *rand.Rand, words []string) string {
	var text strings.Builder
	for i, word := range words {
		gap := []string{" ", "\n", "\t ", " -- \" )\n", "", "", ""}[r.IntN(7)]
		if gap == "" && i > 0 && !apart(words[i-1], word) {
			gap = " "
		}
		text.WriteString(gap + word)
	}
	return text.String()
}

// apart tells whether two words need no blank between them.
func apart(one, two string) bool {
	a, _, _ := token.Scan(one)
	b, _, _ := token.Scan(two)
	both, _, err := token.Scan(one + two)
	return err == api.OK && len(both) == 3 && both[0].Text == a[0].Text && both[1].Text == b[0].Text
}

// spoilt gives words with a few of them taken away, changed, or put in.
func spoilt(r *rand.Rand, words []string) []string {
	all := append(append(softWords(), hardWords()...), "a", "T", "0", "1", "7", `"1"`, `"("`, `"i"`, "(", ")", "[", "]", "{", "}", ",", ".", "..", "+", "-", "*", "=", "!=", "<", "<=", ">", ">=", "!")
	words = slices.Clone(words)
	for range min(1+r.IntN(2), len(words)) {
		i, word := r.IntN(len(words)), all[r.IntN(len(all))]
		switch r.IntN(4) {
		case 0:
			words = slices.Delete(words, i, i+1)
		case 1:
			words[i] = word
		case 2:
			words = slices.Insert(words, i, word)
		case 3:
			words = slices.Insert(words, i, words[r.IntN(len(words))])
		}
	}
	return words
}

// TestGrownTexts holds both calls against the model over texts of the grammar, and over such with a fault in them.
func TestGrownTexts(t *testing.T) {
	r := rand.New(rand.NewPCG(7, 7))
	faults := map[api.Errno]int{}
	for range 4000 {
		if t.Failed() {
			return
		}
		expr, query := grown(r, "expr", 4), grown(r, "query", 2)
		faults[holdsExpr(t, joined(r, expr))]++
		faults[holdsQuery(t, joined(r, query))]++
		for range 3 {
			faults[holdsExpr(t, joined(r, spoilt(r, expr)))]++
			faults[holdsQuery(t, joined(r, spoilt(r, query)))]++
		}
	}
	if faults[api.OK] < 8000 || faults[api.ErrWant] < 8000 {
		t.Errorf("too few were tried: %v", faults)
	}
}

// TestEveryTokenEverywhere puts every token at every place of some queries: ahead of one, in its stead, and as the last.
func TestEveryTokenEverywhere(t *testing.T) {
	all := append(append(softWords(), hardWords()...), "a", "0", "1", "2", `"1"`, `"("`, `"i"`, `"a"`, "(", ")", "[", "]", "{", "}", ",", ".", "..", "+", "-", "*", "=", "!=", "<", "<=", ">", ">=", "!")
	for _, whole := range []string{
		"PATTERN SEQ ( A a ) WITHIN 5 RETURN ( x = a . v )",
		"PATTERN SEQ ( A + b [ ] , ! ( B n ) , C c ) PARTITION BY k WHERE next { [ id ] , b [ i ] . v > b [ i - 1 ] . v , NOT ( count ( b [ .. i - 1 ] ) = - 1 ) } WITHIN 0 RETURN Out ( n = sum ( b . v ) * 2 , s = TRUE )",
		"PATTERN SEQ ( ! ( A a ) ) WHERE strict WITHIN 1 RETURN ( i = i [ first ] . i + max ( i [ .. i - 1 ] . i ) )",
	} {
		words := strings.Fields(whole)
		for i := range words {
			ahead, behind := strings.Join(words[:i], " ")+" ", " "+strings.Join(words[i+1:], " ")
			holdsQuery(t, ahead+behind)
			for _, word := range all {
				holdsQuery(t, ahead+word)
				holdsQuery(t, ahead+word+behind)
				holdsQuery(t, ahead+word+" "+words[i]+behind)
			}
			if t.Failed() {
				return
			}
		}
	}
}
