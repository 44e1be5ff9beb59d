package schema_test

import (
	"fmt"
	"regexp"
	"strings"
	"testing"

	"refrain/api"
	"refrain/schema"
)

// reads holds Parse against the type, or the error and its place, that a text is to give.
func reads(t *testing.T, text string, want api.Type, place int, fault api.Errno) {
	t.Helper()
	if u, at, err := schema.Parse(text); !same(u, want) || at != place || err != fault {
		t.Errorf("P2.5: Parse(%.200q) = %+v, %d, %d, want %+v, %d, %d", text, u, at, err, want, place, fault)
	}
}

func TestPrint(t *testing.T) {
	for _, x := range []struct {
		t    api.Type
		want string
	}{
		{trade(), "TYPE Trade (price INT, sym STR, live BOOL)"},
		{api.Type{Name: "Tick"}, "TYPE Tick ()"},
		{api.Type{Name: "time", Attrs: []api.Attr{}}, "TYPE time ()"},
		{attributes(0, api.Attr{Name: "T", Kind: api.KStr}).t, "TYPE T (T STR)"},
		{attributes(0, api.Attr{Name: "z", Kind: api.KBool}, api.Attr{Name: "a", Kind: api.KInt}).t, "TYPE T (z BOOL, a INT)"},
		{attributes(0, api.Attr{Name: "int", Kind: api.KInt}, api.Attr{Name: "Int", Kind: api.KInt}).t, "TYPE T (int INT, Int INT)"},
		{wide("W", 16), "TYPE W (a0 INT, a1 STR, a2 BOOL, a3 INT, a4 STR, a5 BOOL, a6 INT, a7 STR, a8 BOOL, a9 INT, a10 STR, a11 BOOL, a12 INT, a13 STR, a14 BOOL, a15 INT)"},
	} {
		if s, err := schema.Print(x.t); s != x.want || err != api.OK {
			t.Errorf("P2.4: Print(%+v) = %q, %d, want %q", x.t, s, err, x.want)
		}
	}
	for _, w := range wrongTypes() {
		if s, err := schema.Print(w.t); s != "" || err != w.err {
			t.Errorf("P2.4: Print(%+v) = %q, %d, want %d", w.t, s, err, w.err)
		}
	}
}

func TestParse(t *testing.T) {
	two := trade()
	two.Attrs = two.Attrs[:2]
	for _, x := range []struct {
		text string
		want api.Type
	}{
		{"TYPE Trade (price INT,sym STR)", two},
		{"TYPE Trade(price INT,sym STR)", two},
		{" TYPE\nTick( ) ", api.Type{Name: "Tick"}},
		{"TYPE Tick()", api.Type{Name: "Tick"}},
		{"\t\r\n TYPE\t\tTrade\r(\nprice\r\nINT ,\tsym\nSTR,live\tBOOL )\n\n", trade()},
		{"TYPE time (type INT)", api.Type{Name: "time", Attrs: []api.Attr{{Name: "type", Kind: api.KInt}}}},
		{"TYPE _9 (_ BOOL)", api.Type{Name: "_9", Attrs: []api.Attr{{Name: "_", Kind: api.KBool}}}},
	} {
		reads(t, x.text, x.want, 0, api.OK)
	}
}

func TestParseFaults(t *testing.T) {
	for _, x := range []struct {
		text string
		at   int
		err  api.Errno
	}{
		{"", 0, api.ErrDecl}, {"   ", 3, api.ErrDecl}, {"type T ()", 0, api.ErrDecl}, {" Type T ()", 1, api.ErrDecl}, {"TYPET ()", 0, api.ErrDecl}, {"TYP", 0, api.ErrDecl}, {"(", 0, api.ErrDecl}, {"\x00", 0, api.ErrDecl}, {"\xef\xbb\xbfTYPE T ()", 0, api.ErrDecl}, {"INT", 0, api.ErrDecl},
		{"TYPE", 4, api.ErrDecl}, {"TYPE ", 5, api.ErrDecl}, {"TYPE (", 5, api.ErrDecl}, {"TYPE,", 4, api.ErrDecl}, {"TYPE !", 5, api.ErrDecl}, {"TYPE\vT ()", 4, api.ErrDecl}, {"TYPE\x00T ()", 4, api.ErrDecl}, {"TYPE é ()", 5, api.ErrDecl},
		{"TYPE INT ()", 5, api.ErrName}, {"TYPE TYPE ()", 5, api.ErrName}, {"TYPE 9a ()", 5, api.ErrName}, {"TYPE 0", 5, api.ErrName}, {"TYPE " + strings.Repeat("T", 33), 5, api.ErrName}, {"TYPE SEQ\xff", 5, api.ErrName},
		{"TYPE T", 6, api.ErrDecl}, {"TYPE T  ", 8, api.ErrDecl}, {"TYPE T )", 7, api.ErrDecl}, {"TYPE T T ()", 7, api.ErrDecl}, {"TYPE T\xff()", 6, api.ErrDecl}, {"TYPE T[]", 6, api.ErrDecl}, {"TYPE Té ()", 6, api.ErrDecl},
		{"TYPE T (", 8, api.ErrDecl}, {"TYPE T ( \n", 10, api.ErrDecl}, {"TYPE T ((", 8, api.ErrDecl}, {"TYPE T (,)", 8, api.ErrDecl}, {"TYPE T (-", 8, api.ErrDecl},
		{"TYPE T (time INT)", 8, api.ErrName}, {"TYPE T (time", 8, api.ErrName}, {"TYPE T (INT INT)", 8, api.ErrName}, {"TYPE T (INT)", 8, api.ErrName}, {"TYPE T (1 INT)", 8, api.ErrName}, {"TYPE T (" + strings.Repeat("a", 33) + " INT)", 8, api.ErrName},
		{"TYPE T (a", 9, api.ErrDecl}, {"TYPE T (a  ", 11, api.ErrDecl}, {"TYPE T (a)", 9, api.ErrDecl}, {"TYPE T (a, b INT)", 9, api.ErrDecl}, {"TYPE T (a int)", 10, api.ErrDecl}, {"TYPE T (a b INT)", 10, api.ErrDecl}, {"TYPE T (a INTS)", 10, api.ErrDecl}, {"TYPE T (a IN)", 10, api.ErrDecl}, {"TYPE T (aINT)", 12, api.ErrDecl}, {"TYPE T (a\xff INT)", 9, api.ErrDecl}, {"TYPE T (a TYPE)", 10, api.ErrDecl}, {"TYPE T (a 1)", 10, api.ErrDecl},
		{"TYPE T (a INT", 13, api.ErrDecl}, {"TYPE T (a INT\n", 14, api.ErrDecl}, {"TYPE T (a INT b STR)", 14, api.ErrDecl}, {"TYPE T (a INT INT)", 14, api.ErrDecl}, {"TYPE T (a INT(", 13, api.ErrDecl}, {"TYPE T (a INT;", 13, api.ErrDecl},
		{"TYPE T (a INT,", 14, api.ErrDecl}, {"TYPE T (a INT, )", 15, api.ErrDecl}, {"TYPE T (a INT,,b INT)", 14, api.ErrDecl}, {"TYPE T (a INT, .", 15, api.ErrDecl},
		{"TYPE T (a INT, a STR)", 15, api.ErrDup}, {"TYPE T (a INT, b STR, a", 22, api.ErrDup}, {"TYPE T (a INT, time STR)", 15, api.ErrName}, {"TYPE T (a INT, a! time", 15, api.ErrDup}, {"TYPE T (a INT, A int, a INT", 17, api.ErrDecl},
		{"TYPE T () x", 10, api.ErrDecl}, {"TYPE T () !", 10, api.ErrDecl}, {"TYPE T ())", 9, api.ErrDecl}, {"TYPE T () \x00", 10, api.ErrDecl}, {"TYPE T (a INT)\nTYPE U ()", 15, api.ErrDecl},
	} {
		reads(t, x.text, api.Type{}, x.at, x.err)
	}
}

func TestParseCountsAttributes(t *testing.T) {
	full := wide("W", 16)
	s, err := schema.Print(full)
	if err != api.OK {
		t.Fatalf("P2.4: Print = %d", err)
	}
	reads(t, s, full, 0, api.OK)
	open := s[:len(s)-1]
	at := len(open) + len(", ")
	for _, more := range []string{"b INT)", "b", "a0 INT)", "time INT)", "INT", "9", strings.Repeat("b", 33)} {
		reads(t, open+", "+more, api.Type{}, at, api.ErrLong)
	}
	for _, more := range []string{"", ")", ",", "!"} {
		reads(t, open+", "+more, api.Type{}, at, api.ErrDecl)
	}
}

func TestParseBound(t *testing.T) {
	const tick = "TYPE Tick ()"
	pad := func(n int) string { return strings.Repeat(" ", n-len(tick)) }
	reads(t, tick+pad(4096), api.Type{Name: "Tick"}, 0, api.OK)
	reads(t, pad(4096)+tick, api.Type{Name: "Tick"}, 0, api.OK)
	reads(t, strings.Repeat(" ", 4096), api.Type{}, 4096, api.ErrDecl)
	reads(t, "TYPE "+strings.Repeat("T", 4091), api.Type{}, 5, api.ErrName)
	for _, s := range []string{tick + pad(4097), pad(4097) + tick, strings.Repeat("!", 4097), "TYPE INT" + strings.Repeat(" ", 4090), strings.Repeat("\xff", 1<<20)} {
		reads(t, s, api.Type{}, 0, api.ErrLong)
	}
}

// TestParseWithOtherBlanks lays blanks of all kinds at all places where they may stand.
func TestParseWithOtherBlanks(t *testing.T) {
	tokens := strings.Fields("TYPE Trade ( price INT , sym STR , live BOOL )")
	for _, blank := range []string{" ", "\t", "\n", "\r", "\r\n", " \t\n\r "} {
		reads(t, blank+strings.Join(tokens, blank)+blank, trade(), 0, api.OK)
		for i := range len(tokens) + 1 {
			reads(t, strings.Join(tokens[:i], " ")+blank+strings.Join(tokens[i:], " "), trade(), 0, api.OK)
		}
	}
	// What is no blank may stand nowhere between two tokens.
	for i := range 256 {
		c := string([]byte{byte(i)})
		if strings.Contains(letters+digits+"(), \t\n\r", c) {
			continue
		}
		for n := range len(tokens) + 1 {
			ahead := strings.Join(tokens[:n], " ")
			reads(t, ahead+c+strings.Join(tokens[n:], " "), api.Type{}, len(ahead), api.ErrDecl)
		}
	}
}

func TestParseOfPrint(t *testing.T) {
	for n := range 17 {
		x := wide(fmt.Sprintf("T%d", n), n)
		s, err := schema.Print(x)
		if err != api.OK {
			t.Fatalf("P2.4: Print(%+v) = %d", x, err)
		}
		reads(t, s, x, 0, api.OK)
	}
	long := api.Type{Name: strings.Repeat("T", 32)}
	for i := range 16 {
		long.Attrs = append(long.Attrs, api.Attr{Name: strings.Repeat("a", 31) + letters[i:i+1], Kind: api.KBool})
	}
	s, _ := schema.Print(long)
	reads(t, s, long, 0, api.OK)
}

func TestParseAnswersNewMemory(t *testing.T) {
	const s = "TYPE Trade (price INT, sym STR, live BOOL)"
	a, _, _ := schema.Parse(s)
	b, _, _ := schema.Parse(s)
	spoil(a.Attrs)
	if c, _, _ := schema.Parse(s); !same(b, trade()) || !same(c, trade()) {
		t.Errorf("P2.6: two answers of Parse share a list: %+v, %+v", b, c)
	}
}

// What a declaration may go on with.
const (
	wantsType = iota
	wantsName
	wantsOpen
	wantsFirst // an attribute, or the end of none
	wantsKind
	wantsMore
	wantsAttr
	wantsEnd
)

// model reads a declaration in another way than the program: token by token, through the states above.
type model struct {
	state int
	t     api.Type
}

var token = regexp.MustCompile(`^[ \t\n\r]*([0-9A-Za-z_]+|[(),]|$)`)

func (m *model) read(text string) (api.Type, int, api.Errno) {
	for at := 0; ; {
		found := token.FindStringSubmatchIndex(text[at:])
		if found == nil {
			blank := len(text[at:]) - len(strings.TrimLeft(text[at:], " \t\n\r"))
			return api.Type{}, at + blank, api.ErrDecl
		}
		word := text[at+found[2] : at+found[3]]
		if err := m.take(word); err != api.OK {
			return api.Type{}, at + found[2], err
		}
		if word == "" {
			return m.t, 0, api.OK
		}
		at += found[1]
	}
}

// take goes on by a token: "" is the text's end.
func (m *model) take(word string) api.Errno {
	isWord := word != "" && !strings.Contains("(),", word)
	state := m.state
	m.state++
	switch {
	case state == wantsType && word == "TYPE", state == wantsOpen && word == "(", state == wantsEnd && word == "":
	case (state == wantsFirst || state == wantsMore) && word == ")":
		m.state = wantsEnd
	case state == wantsMore && word == ",":
	case state == wantsName && isWord:
		m.t.Name = word
		if !schema.Name(word) {
			return api.ErrName
		}
	case (state == wantsFirst || state == wantsAttr) && isWord:
		m.state = wantsKind
		return m.attr(word)
	case state == wantsKind && strings.Contains(" INT STR BOOL ", " "+word+" ") && isWord:
		m.t.Attrs[len(m.t.Attrs)-1].Kind = 1 + strings.Index("INT STR BOOL", word)/4
	default:
		return api.ErrDecl
	}
	return api.OK
}

func (m *model) attr(word string) api.Errno {
	if len(m.t.Attrs) == 16 {
		return api.ErrLong
	}
	if !schema.Name(word) || word == "time" {
		return api.ErrName
	}
	for _, a := range m.t.Attrs {
		if a.Name == word {
			return api.ErrDup
		}
	}
	m.t.Attrs = append(m.t.Attrs, api.Attr{Name: word})
	return api.OK
}

// TestParseAllShortTexts holds Parse against the model over all short rows of tokens, behind some beginnings.
func TestParseAllShortTexts(t *testing.T) {
	pieces := []string{"TYPE ", "T ", "a", "INT", " STR", "BOOL\n", "time ", "(", ")", ", ", "9", "!", "\xff", " "}
	squeeze := strings.NewReplacer(" ", "", "\n", "")
	var try func(s string, more int)
	try = func(s string, more int) {
		want, at, err := new(model).read(s)
		reads(t, s, want, at, err)
		if err == api.OK {
			if shown, e := schema.Print(want); squeeze.Replace(shown) != squeeze.Replace(s) || e != api.OK {
				t.Errorf("P2.5: Print of Parse(%q) = %q, %d", s, shown, e)
			}
		}
		for i := 0; more > 0 && i < len(pieces); i++ {
			try(s+pieces[i], more-1)
		}
	}
	for _, begin := range []string{"", "TYPE T", "TYPE T (", "TYPE T (a INT", "TYPE T(b BOOL,a STR,"} {
		try(begin, 4)
	}
}

// TestParseOtherBytes puts every byte at every place of a text, and takes every byte out.
func TestParseOtherBytes(t *testing.T) {
	const s = "TYPE T1 (a INT, b STR,c BOOL)\n"
	for at := range len(s) {
		texts := []string{s[:at] + s[at+1:], s[:at]}
		for c := range 256 {
			b := string([]byte{byte(c)})
			texts = append(texts, s[:at]+b+s[at:], s[:at]+b+s[at+1:])
		}
		for _, x := range texts {
			want, place, err := new(model).read(x)
			reads(t, x, want, place, err)
		}
	}
}
