package parse_test

import (
	"sync"
	"testing"
	"unsafe"

	"refrain/api"
	"refrain/parse"
)

// stretch is the memory of a list or a text, spare room too.
type stretch struct {
	begin, end uintptr
}

func list[T any](l []T) stretch {
	var one T
	begin := uintptr(unsafe.Pointer(unsafe.SliceData(l)))
	return stretch{begin, begin + uintptr(cap(l))*unsafe.Sizeof(one)}
}

func bytes(s string) stretch {
	begin := uintptr(unsafe.Pointer(unsafe.StringData(s)))
	return stretch{begin, begin + uintptr(len(s))}
}

func (s stretch) meets(o stretch) bool { return s.begin < o.end && o.begin < s.end }

// exprMemory gives the lists and the texts of an expression.
func exprMemory(e api.Expr) (lists, texts []stretch) {
	lists, texts = []stretch{list(e.Kids)}, []stretch{bytes(e.Var), bytes(e.Attr), bytes(e.Val.Str)}
	for _, kid := range e.Kids {
		l, s := exprMemory(kid)
		lists, texts = append(lists, l...), append(texts, s...)
	}
	return lists, texts
}

// queryMemory gives those of a query and its places.
func queryMemory(q api.Query, s api.Spots) (lists, texts []stretch) {
	lists = []stretch{list(q.Comps), list(q.Equiv), list(q.Where), list(q.Items), list(s.Comps), list(s.Equiv), list(s.Where), list(s.Items)}
	texts = []stretch{bytes(q.Part), bytes(q.Out)}
	for _, c := range q.Comps {
		texts = append(texts, bytes(c.Type), bytes(c.Var))
	}
	for _, attr := range q.Equiv {
		texts = append(texts, bytes(attr))
	}
	exprs := append([]api.Expr{}, q.Where...)
	for _, item := range q.Items {
		texts = append(texts, bytes(item.Name))
		exprs = append(exprs, item.Expr)
	}
	for _, e := range exprs {
		l, x := exprMemory(e)
		lists, texts = append(lists, l...), append(texts, x...)
	}
	return lists, texts
}

// big is a text with more than one of everything.
func big() string {
	text, _ := spotted("PATTERN SEQ(A a, A b, !(C c), D+ d[], E e) PARTITION BY part WHERE strict { [one], [two], [three], a.x = b.x AND NOT c.x > -d[last].x, a.x + (1 - 2) * 3 != sum(d.x), TRUE } WITHIN 12345 RETURN Output(x = a.x - 1 - 2 - 3, y = \"some string\" = b.x, z = count(d))")
	return text
}

func TestListsShareNothing(t *testing.T) {
	var lists []stretch
	for range 3 {
		q, s, _, err := parse.Query(big())
		if err != api.OK {
			t.Fatalf("P7.1: Query(%q): %d", big(), err)
		}
		l, _ := queryMemory(q, s)
		lists = append(lists, l...)
		e, _, _ := parse.Expr("a.x = b.x AND NOT c.x > -d[last].x")
		l, _ = exprMemory(e)
		lists = append(lists, l...)
	}
	for i, one := range lists {
		for _, other := range lists[:i] {
			if one.meets(other) {
				t.Fatal("P7.4: two lists share memory")
			}
		}
	}
}

// TestTextsAreNotKept sees that no text of an answer is a piece of the one that was handed in: it would keep the whole.
func TestTextsAreNotKept(t *testing.T) {
	text := big()
	q, s, _, _ := parse.Query(text)
	_, texts := queryMemory(q, s)
	expr := "name.attribute = \"string\" AND sum(other.attribute) = 1"
	e, _, _ := parse.Expr(expr)
	_, more := exprMemory(e)
	for _, one := range append(texts, more...) {
		if one.meets(bytes(text)) || one.meets(bytes(expr)) {
			t.Fatal("P7.4: a text of an answer is a piece of the one that was read")
		}
	}
}

// scribble writes into all lists of an expression, and their spare room.
func scribble(e api.Expr) {
	for _, kid := range e.Kids {
		scribble(kid)
	}
	clear(e.Kids[:cap(e.Kids)])
	_ = append(e.Kids, api.Expr{Kind: 99})
}

func TestAnswersAreNew(t *testing.T) {
	for range 3 {
		one, s, _, _ := parse.Query(big())
		other, places, _, _ := parse.Query(big())
		e, _, _ := parse.Expr("1 + 2 * 3")
		scribble(e)
		for _, cond := range one.Where {
			scribble(cond)
		}
		for _, item := range one.Items {
			scribble(item.Expr)
		}
		clear(one.Comps[:cap(one.Comps)])
		clear(one.Equiv[:cap(one.Equiv)])
		clear(one.Where[:cap(one.Where)])
		clear(one.Items[:cap(one.Items)])
		for _, l := range [][]int{s.Comps, s.Equiv, s.Where, s.Items} {
			clear(l[:cap(l)])
		}
		again, spots, _, _ := parse.Query(big())
		if !sameQuery(other, again) || !sameSpots(places, spots) || len(again.Where) != 3 || again.Comps[4].Var != "e" {
			t.Errorf("P7.4: what was written into an answer is in another one: %s, %s", short(other), short(again))
		}
		reads(t, "1 + 2 * 3", bin(api.OAdd, number(1), bin(api.OMul, number(2), number(3))))
	}
}

// TestAnswersHangOnArgumentsAlone asks the same behind calls of all kinds, of many at a time.
func TestAnswersHangOnArgumentsAlone(t *testing.T) {
	var group sync.WaitGroup
	for range 8 {
		group.Go(func() {
			for range 200 {
				asks(t, simple, simpleQuery())
				asksNot(t, api.ErrWant, "PATTERN SEQ(A a@")
				asks(t, full, fullQuery())
				asksNot(t, api.ErrChar, full[:11]+"@;")
				readsNot(t, api.ErrDeep, "@"+"- - - - - - - - - - - - - - - - - - - - - - - - - - - - - - - - 1")
				reads(t, "NOT a.x", not(ref("a", api.AtOne, "x")))
				readsNot(t, api.ErrWant, "1 +@")
			}
		})
	}
	group.Wait()
}
