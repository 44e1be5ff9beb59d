package value_test

import (
	"math"
	"strings"
	"sync"
	"testing"

	"refrain/api"
	"refrain/value"
)

func number(n int64) api.Value { return api.Value{Kind: api.KInt, Int: n} }

func text(s string) api.Value { return api.Value{Kind: api.KStr, Str: s} }

func truth(b bool) api.Value { return api.Value{Kind: api.KBool, Bool: b} }

// rising holds values that may be, each above the one ahead of it.
func rising() []api.Value {
	return []api.Value{
		number(math.MinInt64), number(math.MinInt64 + 1), number(-10), number(-9), number(-1), number(0), number(1), number(9), number(10), number(1 << 32), number(math.MaxInt64),
		text(""), text("\x00"), text("\x00\x00"), text("\n"), text("0"), text("A"), text("TRUE"), text("a"), text("a\x00"), text("aa"), text("ab"), text("b"), text("\x7f"), text("\x80"), text("é"), text("\xff"), text("\xff\x00"), text(strings.Repeat("\xff", api.MaxStr)),
		truth(false), truth(true),
	}
}

// broken holds values that may not be.
func broken() []api.Value {
	return []api.Value{
		{},
		{Kind: -1}, {Kind: 4}, {Kind: math.MinInt64}, {Kind: math.MaxInt64}, {Kind: 1 << 32}, {Kind: 1<<32 + api.KInt}, {Kind: 256 + api.KBool},
		{Int: 1}, {Str: "a"}, {Bool: true},
		{Kind: api.KInt, Str: "a"}, {Kind: api.KInt, Bool: true}, {Kind: api.KInt, Int: 1, Str: "\x00"}, {Kind: api.KInt, Int: 1, Str: "a", Bool: true},
		{Kind: api.KStr, Int: 1}, {Kind: api.KStr, Bool: true}, {Kind: api.KStr, Int: -1, Str: "a"}, {Kind: api.KStr, Str: "a", Bool: true},
		{Kind: api.KBool, Int: 1}, {Kind: api.KBool, Str: "a"}, {Kind: api.KBool, Int: math.MinInt64, Bool: true}, {Kind: api.KBool, Str: "\x00", Bool: true},
		text(strings.Repeat("a", api.MaxStr+1)), text(strings.Repeat("\xff", 100000)),
	}
}

func TestValid(t *testing.T) {
	for _, v := range rising() {
		if !value.Valid(v) {
			t.Errorf("P1.1: Valid(%v) = false", v)
		}
	}
	for _, v := range broken() {
		if value.Valid(v) {
			t.Errorf("P1.1: Valid(%v) = true", v)
		}
	}
}

func sign(less, more bool) int {
	switch {
	case less:
		return -1
	case more:
		return 1
	}
	return 0
}

func TestCompare(t *testing.T) {
	row := rising()
	for i, a := range row {
		for j, b := range row {
			if c := value.Compare(a, b); c != sign(i < j, i > j) {
				t.Errorf("P1.4: Compare(%v, %v) = %d, want %d", a, b, c, sign(i < j, i > j))
			}
		}
	}
}

func TestCompareValuesThatMayNotBe(t *testing.T) {
	row := []api.Value{
		{Kind: math.MinInt64, Int: 9, Str: "z", Bool: true},
		{Kind: -1},
		{},
		{Bool: true},
		{Str: "a"},
		{Int: 1},
		{Kind: api.KInt, Int: -1, Str: "z", Bool: true},
		{Kind: api.KInt},
		{Kind: api.KInt, Bool: true},
		{Kind: api.KInt, Str: "a"},
		{Kind: api.KInt, Str: "a", Bool: true},
		{Kind: api.KInt, Str: "b"},
		{Kind: api.KInt, Int: 1},
		{Kind: api.KStr, Int: -5, Str: "b"},
		{Kind: api.KStr, Str: strings.Repeat("a", 257)},
		{Kind: api.KStr, Str: strings.Repeat("a", 258)},
		{Kind: api.KStr, Str: "b"},
		{Kind: api.KStr, Int: 1, Str: "a"},
		{Kind: api.KBool, Int: -1, Bool: true},
		{Kind: api.KBool},
		{Kind: api.KBool, Bool: true},
		{Kind: api.KBool, Str: "a"},
		{Kind: api.KBool, Int: 1},
		{Kind: 4},
		{Kind: math.MaxInt64},
	}
	for i, a := range row {
		for j, b := range row {
			if c := value.Compare(a, b); c != sign(i < j, i > j) {
				t.Errorf("P1.4: Compare(%v, %v) = %d, want %d", a, b, c, sign(i < j, i > j))
			}
		}
	}
}

// answers tells all that the calls say of two values and a text.
func answers(a, b api.Value, s string) []any {
	shown, e1 := value.Show(a)
	read, e2 := value.Read(s)
	l := []any{value.Valid(a), shown, e1, read, e2, value.Compare(a, b)}
	for op := -1; op <= 15; op++ {
		one, e3 := value.Unary(op, a)
		two, e4 := value.Binary(op, a, b)
		l = append(l, one, e3, two, e4)
	}
	return l
}

func TestAnswersHangOnArgumentsAlone(t *testing.T) {
	values := append(rising(), broken()...)
	said := func() []any {
		var l []any
		for i, a := range values {
			b := values[(i*7+3)%len(values)]
			s, _ := value.Show(b)
			l = append(l, answers(a, b, s)...)
		}
		return l
	}
	want := said()
	var group sync.WaitGroup
	for range 4 {
		group.Go(func() {
			for i, x := range said() {
				if x != want[i] {
					t.Errorf("P1.7: answer %d is %v and was %v", i, x, want[i])
				}
			}
		})
	}
	group.Wait()
}
