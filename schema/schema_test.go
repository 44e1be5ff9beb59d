package schema_test

import (
	"fmt"
	"math"
	"slices"
	"strings"
	"testing"

	"refrain/api"
	"refrain/schema"
)

func number(n int64) api.Value { return api.Value{Kind: api.KInt, Int: n} }

func text(s string) api.Value { return api.Value{Kind: api.KStr, Str: s} }

func truth(b bool) api.Value { return api.Value{Kind: api.KBool, Bool: b} }

// trade gives a type with an attribute of each kind.
func trade() api.Type {
	return api.Type{Name: "Trade", Attrs: []api.Attr{{Name: "price", Kind: api.KInt}, {Name: "sym", Kind: api.KStr}, {Name: "live", Kind: api.KBool}}}
}

// wide gives a type with so many attributes.
func wide(name string, attrs int) api.Type {
	t := api.Type{Name: name}
	for i := range attrs {
		t.Attrs = append(t.Attrs, api.Attr{Name: fmt.Sprintf("a%d", i), Kind: 1 + i%3})
	}
	return t
}

func same(a, b api.Type) bool { return a.Name == b.Name && slices.Equal(a.Attrs, b.Attrs) }

func sameList(a, b []api.Type) bool { return slices.EqualFunc(a, b, same) }

// catalog gives one in which these types are declared.
func catalog(t *testing.T, types ...api.Type) *schema.Catalog {
	t.Helper()
	c := schema.New()
	for _, x := range types {
		if err := c.Declare(x); err != api.OK {
			t.Fatalf("P2.2: Declare(%+v) = %d", x, err)
		}
	}
	return c
}

// wrong is a type that may not be, and why.
type wrong struct {
	t   api.Type
	err api.Errno
}

// attributes gives a wrong type of a right name.
func attributes(err api.Errno, attrs ...api.Attr) wrong {
	return wrong{api.Type{Name: "T", Attrs: attrs}, err}
}

func wrongTypes() []wrong {
	right := api.Attr{Name: "a", Kind: api.KInt}
	list := []wrong{
		{api.Type{}, api.ErrName},
		{api.Type{Name: "9a"}, api.ErrName},
		{api.Type{Name: strings.Repeat("T", 33)}, api.ErrName},
		{api.Type{Name: "T "}, api.ErrName},
		{api.Type{Name: "\xff"}, api.ErrName},
		{wide("SEQ", 17), api.ErrName},
		{api.Type{Name: "SEQ", Attrs: []api.Attr{{Name: "a", Kind: 9}}}, api.ErrName},
		{wide("T", 17), api.ErrLong},
		{wide("T", 1000), api.ErrLong},
		{api.Type{Name: "T", Attrs: make([]api.Attr, 17)}, api.ErrLong},
		attributes(api.ErrName, api.Attr{Kind: api.KInt}),
		attributes(api.ErrName, api.Attr{Name: "time", Kind: api.KInt}),
		attributes(api.ErrName, api.Attr{Name: "time", Kind: 9}),
		attributes(api.ErrName, api.Attr{Name: "a-b", Kind: api.KInt}),
		attributes(api.ErrName, api.Attr{Name: strings.Repeat("a", 33), Kind: api.KInt}),
		attributes(api.ErrDecl, right, api.Attr{Name: "a", Kind: 4}),
		attributes(api.ErrDup, right, right),
		attributes(api.ErrDup, right, api.Attr{Name: "a", Kind: api.KStr}),
		attributes(api.ErrDup, right, api.Attr{Name: "b", Kind: api.KStr}, right),
		attributes(api.ErrDup, right, right, api.Attr{Name: "time"}),
		attributes(api.ErrDecl, right, api.Attr{Name: "b"}, right),
		attributes(api.ErrName, right, api.Attr{Name: "time"}, right),
	}
	for _, w := range reserved() {
		list = append(list, wrong{api.Type{Name: w}, api.ErrName}, attributes(api.ErrName, api.Attr{Name: w, Kind: api.KInt}))
	}
	for _, kind := range []int{0, -1, 4, 256 + api.KInt, 1<<32 + api.KInt, math.MinInt64, math.MaxInt64} {
		list = append(list, attributes(api.ErrDecl, api.Attr{Name: "a", Kind: kind}))
	}
	return list
}

func TestDeclareRefusesWrongTypes(t *testing.T) {
	c := catalog(t, trade())
	for _, w := range wrongTypes() {
		if err := c.Declare(w.t); err != w.err {
			t.Errorf("P2.2: Declare(%+v) = %d, want %d", w.t, err, w.err)
		}
		if _, err := c.Find(w.t.Name); err != api.ErrType {
			t.Errorf("P2.2: Find(%q) = %d, though it was refused", w.t.Name, err)
		}
	}
	if l := c.List(); !sameList(l, []api.Type{trade()}) {
		t.Errorf("P2.2: after refusals List = %+v", l)
	}
}

func TestDeclareAndFind(t *testing.T) {
	c := schema.New()
	if l := c.List(); len(l) != 0 {
		t.Errorf("P2.2: a new catalog has %+v", l)
	}
	long := wide(strings.Repeat("T", 32), 16)
	long.Attrs[15].Name = strings.Repeat("a", 32)
	types := []api.Type{trade(), {Name: "Tick"}, {Name: "time"}, {Name: "_"}, long, attributes(api.OK, api.Attr{Name: "T", Kind: api.KStr}).t}
	for _, x := range types {
		if u, err := c.Find(x.Name); !same(u, api.Type{}) || err != api.ErrType {
			t.Errorf("P2.2: Find(%q) = %+v, %d ahead of Declare", x.Name, u, err)
		}
		if err := c.Declare(x); err != api.OK {
			t.Errorf("P2.2: Declare(%+v) = %d", x, err)
		}
	}
	for _, x := range types {
		if u, err := c.Find(x.Name); !same(u, x) || err != api.OK {
			t.Errorf("P2.2: Find(%q) = %+v, %d", x.Name, u, err)
		}
	}
	for _, s := range []string{"", "trade", "TRADE", "Trade ", "Trad", "Trades", "\xff", strings.Repeat("T", 33), strings.Repeat("T", 1<<20)} {
		if u, err := c.Find(s); !same(u, api.Type{}) || err != api.ErrType {
			t.Errorf("P2.2: Find(%.40q) = %+v, %d", s, u, err)
		}
	}
}

func TestDeclareTwice(t *testing.T) {
	c := catalog(t, trade())
	other := api.Type{Name: "Trade", Attrs: []api.Attr{{Name: "x", Kind: api.KInt}}}
	for _, x := range []api.Type{trade(), other, {Name: "Trade"}} {
		if err := c.Declare(x); err != api.ErrDup {
			t.Errorf("P2.2: Declare(%+v) = %d, want ErrDup", x, err)
		}
	}
	wrong := api.Type{Name: "Trade", Attrs: []api.Attr{{Name: "x"}}}
	if err := c.Declare(wrong); err != api.ErrDecl {
		t.Errorf("P2.2: a wrong type of a name that is there: %d, want ErrDecl", err)
	}
	if u, err := c.Find("Trade"); !same(u, trade()) || err != api.OK {
		t.Errorf("P2.2: Find = %+v, %d after a second Declare", u, err)
	}
	if l := c.List(); !sameList(l, []api.Type{trade()}) {
		t.Errorf("P2.2: List = %+v after a second Declare", l)
	}
}

func TestFullCatalog(t *testing.T) {
	c := catalog(t, trade())
	for i := 1; i < api.MaxTypes; i++ {
		if err := c.Declare(wide(fmt.Sprintf("T%d", i), i%17)); err != api.OK {
			t.Fatalf("P2.2: Declare of type %d = %d", i+1, err)
		}
	}
	before := c.List()
	if len(before) != 64 {
		t.Fatalf("P2.2: %d types", len(before))
	}
	for _, x := range []struct {
		t    api.Type
		want api.Errno
	}{
		{api.Type{Name: "More"}, api.ErrFull}, {wide("More", 16), api.ErrFull}, {trade(), api.ErrDup}, {api.Type{Name: "T63"}, api.ErrDup},
		{api.Type{Name: "INT"}, api.ErrName}, {wide("More", 17), api.ErrLong}, {attributes(0, api.Attr{Name: "a"}).t, api.ErrDecl},
	} {
		if err := c.Declare(x.t); err != x.want {
			t.Errorf("P2.2: Declare(%+v) in a full catalog = %d, want %d", x.t, err, x.want)
		}
	}
	if _, err := c.Find("More"); err != api.ErrType || !sameList(c.List(), before) {
		t.Errorf("P2.2: a full catalog took a type")
	}
}

func TestListRises(t *testing.T) {
	rising := []string{"A", "AB", "A_", "Aa", "Z", "_", "_0", "_A", "__", "_a", "a", "a0", "a00", "a1", "aA", "a_", "aa", "b"}
	// A step that has no divisor with the length comes by all of them, in an order of its own.
	for _, step := range []int{1, 5, 7, 11, 13, 17} {
		c := schema.New()
		for i := range rising {
			name := rising[i*step%len(rising)]
			if err := c.Declare(wide(name, i%3)); err != api.OK {
				t.Fatalf("P2.2: Declare(%q) = %d", name, err)
			}
		}
		for range 20 {
			var names []string
			for _, x := range c.List() {
				names = append(names, x.Name)
				if u, _ := c.Find(x.Name); !same(u, x) {
					t.Errorf("P2.2: List tells %+v, Find %+v", x, u)
				}
			}
			if !slices.Equal(names, rising) {
				t.Fatalf("P2.2: List = %q", names)
			}
		}
	}
}

func TestCatalogsShareNothing(t *testing.T) {
	a, b := schema.New(), schema.New()
	if err := a.Declare(trade()); err != api.OK {
		t.Fatalf("P2.2: Declare = %d", err)
	}
	if _, err := b.Find("Trade"); err != api.ErrType || len(b.List()) != 0 {
		t.Errorf("P2.2: a type is in a catalog that was not told it")
	}
	if err := b.Declare(api.Type{Name: "Trade"}); err != api.OK {
		t.Errorf("P2.2: Declare = %d", err)
	}
	if u, _ := a.Find("Trade"); !same(u, trade()) {
		t.Errorf("P2.2: another catalog changed the type to %+v", u)
	}
}

func TestCheckTakes(t *testing.T) {
	c := catalog(t, trade(), api.Type{Name: "Tick"})
	for _, e := range []api.Event{
		{Type: "Trade", Time: 5, Vals: []api.Value{number(12), text("x"), truth(true)}},
		{Type: "Trade", Time: 0, Vals: []api.Value{number(math.MinInt64), text(""), truth(false)}},
		{Type: "Trade", Time: 1 << 62, Vals: []api.Value{number(math.MaxInt64), text(strings.Repeat("\xff", 256)), truth(false)}},
		{Type: "Tick"}, {Type: "Tick", Time: 1, Vals: []api.Value{}},
	} {
		if err := c.Check(e); err != api.OK {
			t.Errorf("P2.3: Check(%#v) = %d", e, err)
		}
	}
}

func TestCheckRefuses(t *testing.T) {
	c := catalog(t, trade(), api.Type{Name: "Tick"})
	n, s, b := number(12), text("x"), truth(true)
	odd, none := api.Value{Kind: api.KInt, Str: "x"}, api.Value{}
	long := text(strings.Repeat("x", 257))
	for _, x := range []struct {
		name string
		time int64
		vals []api.Value
		want api.Errno
	}{
		{"Quote", 5, nil, api.ErrType}, {"trade", 5, []api.Value{n, s, b}, api.ErrType}, {"", 0, nil, api.ErrType}, {"Quote", -1, []api.Value{none}, api.ErrType},
		{"Trade", -1, []api.Value{n, s, b}, api.ErrTime}, {"Trade", 1<<62 + 1, []api.Value{n, s, b}, api.ErrTime}, {"Tick", math.MinInt64, nil, api.ErrTime}, {"Tick", math.MaxInt64, nil, api.ErrTime},
		{"Trade", -1, []api.Value{none}, api.ErrTime},
		{"Trade", 5, nil, api.ErrArity}, {"Trade", 5, []api.Value{n, s}, api.ErrArity}, {"Trade", 5, []api.Value{n, s, b, b}, api.ErrArity}, {"Trade", 5, []api.Value{s, none}, api.ErrArity},
		{"Tick", 5, []api.Value{n}, api.ErrArity}, {"Trade", 5, make([]api.Value, 1000), api.ErrArity},
		{"Trade", 5, []api.Value{s, s, b}, api.ErrKind}, {"Trade", 5, []api.Value{n, n, b}, api.ErrKind}, {"Trade", 5, []api.Value{n, s, n}, api.ErrKind}, {"Trade", 5, []api.Value{n, b, s}, api.ErrKind},
		{"Trade", 5, []api.Value{none, s, b}, api.ErrKind}, {"Trade", 5, []api.Value{{Kind: 4}, s, b}, api.ErrKind}, {"Trade", 5, []api.Value{{Kind: 1<<32 + api.KInt}, s, b}, api.ErrKind},
		{"Trade", 5, []api.Value{odd, s, b}, api.ErrValue}, {"Trade", 5, []api.Value{{Kind: api.KInt, Bool: true}, s, b}, api.ErrValue},
		{"Trade", 5, []api.Value{n, long, b}, api.ErrValue}, {"Trade", 5, []api.Value{n, {Kind: api.KStr, Int: 1}, b}, api.ErrValue}, {"Trade", 5, []api.Value{n, s, {Kind: api.KBool, Int: 1}}, api.ErrValue},
		{"Trade", 5, []api.Value{n, odd, b}, api.ErrKind},
		{"Trade", 5, []api.Value{odd, n, b}, api.ErrValue}, {"Trade", 5, []api.Value{s, long, b}, api.ErrKind}, {"Trade", 5, []api.Value{n, long, none}, api.ErrValue},
	} {
		e := api.Event{Type: x.name, Time: x.time, Vals: x.vals}
		if err := c.Check(e); err != x.want {
			t.Errorf("P2.3: Check(%#v) = %d, want %d", e, err, x.want)
		}
	}
	if l := c.List(); !sameList(l, []api.Type{{Name: "Tick"}, trade()}) {
		t.Errorf("P2.3: Check changed the catalog to %+v", l)
	}
	if err := schema.New().Check(api.Event{Type: "Trade"}); err != api.ErrType {
		t.Errorf("P2.3: Check of an empty catalog = %d", err)
	}
}

// spoil writes into all that a list holds, its spare room too.
func spoil(attrs []api.Attr) {
	attrs = attrs[:cap(attrs)]
	for i := range attrs {
		attrs[i] = api.Attr{Name: "spoilt", Kind: 9}
	}
}

func TestDeclareKeepsAndChangesNothing(t *testing.T) {
	c := schema.New()
	given := trade()
	given.Attrs = append(make([]api.Attr, 0, 9), given.Attrs...)
	spare := given.Attrs[3:9]
	for i := range spare {
		spare[i] = api.Attr{Name: "spare", Kind: i}
	}
	if err := c.Declare(given); err != api.OK {
		t.Fatalf("P2.2: Declare = %d", err)
	}
	if _, err := schema.Print(given); err != api.OK {
		t.Errorf("P2.4: Print = %d", err)
	}
	for i, a := range spare {
		if a != (api.Attr{Name: "spare", Kind: i}) {
			t.Errorf("P2.6: the spare room of a list was written: %+v", a)
		}
	}
	if !same(given, trade()) {
		t.Errorf("P2.6: what was handed in is now %+v", given)
	}
	spoil(given.Attrs)
	if u, _ := c.Find("Trade"); !same(u, trade()) {
		t.Errorf("P2.6: what was handed in was kept: %+v", u)
	}
}

func TestCheckChangesNothing(t *testing.T) {
	c := catalog(t, trade())
	room := []api.Value{number(1), text("x"), truth(true), number(4), number(5)}
	before := slices.Clone(room)
	for n := range room {
		c.Check(api.Event{Type: "Trade", Vals: room[:n]})
	}
	if !slices.Equal(room, before) {
		t.Errorf("P2.6: values that were handed in are now %+v", room)
	}
}

func TestAnswersAreNewMemory(t *testing.T) {
	types := []api.Type{wide("A", 16), {Name: "None"}, trade(), wide("Wide", 5)}
	c := catalog(t, types...)
	found, _ := c.Find("Trade")
	again, _ := c.Find("Trade")
	spoil(found.Attrs)
	if !same(again, trade()) {
		t.Errorf("P2.6: two answers of Find share a list")
	}
	list, other := c.List(), c.List()
	for i := range list {
		for j, x := range list {
			if j >= i && !same(x, types[j]) {
				t.Errorf("P2.6: two lists of an answer share memory: %+v", x)
			}
		}
		spoil(list[i].Attrs)
	}
	list = list[:cap(list)]
	for i := range list {
		list[i] = api.Type{Name: "spoilt"}
	}
	if !sameList(other, types) || !sameList(c.List(), types) {
		t.Errorf("P2.6: two answers of List share a list")
	}
	for _, x := range types {
		if u, err := c.Find(x.Name); !same(u, x) || err != api.OK {
			t.Errorf("P2.6: what Find or List answered is the catalog's own: %+v, %d", u, err)
		}
	}
	if err := c.Check(api.Event{Type: "Trade", Vals: []api.Value{number(1), text(""), truth(false)}}); err != api.OK {
		t.Errorf("P2.6: Check = %d after answers were written into", err)
	}
}
