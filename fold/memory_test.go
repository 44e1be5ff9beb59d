package fold_test

import (
	"cmp"
	"reflect"
	"slices"
	"sync"
	"testing"
	"unsafe"

	"refrain/api"
	"refrain/fold"
)

// roomy gives an expression whose lists have spare room, in which something stands.
func roomy(e api.Expr) api.Expr {
	var kids []api.Expr
	for _, kid := range e.Kids {
		kids = append(kids, roomy(kid))
	}
	e.Kids = roomyList(kids)
	return e
}

func roomyList(l []api.Expr) []api.Expr {
	spare := expr("spare.x + 1")
	return append(slices.Clone(l), spare, spare)[:len(l)]
}

// lists gives all lists of an expression, spare room too.
func lists(all [][]api.Expr, l ...api.Expr) [][]api.Expr {
	for _, e := range l {
		all = append(all, e.Kids[:cap(e.Kids)])
		all = lists(all, e.Kids...)
	}
	return all
}

// room is where a list lies.
type room struct{ from, to uintptr }

func rooms(all [][]api.Expr) []room {
	var l []room
	for _, list := range all {
		if len(list) > 0 {
			from := uintptr(unsafe.Pointer(unsafe.SliceData(list)))
			l = append(l, room{from, from + uintptr(len(list))*unsafe.Sizeof(api.Expr{})})
		}
	}
	slices.SortFunc(l, func(a, b room) int { return cmp.Compare(a.from, b.from) })
	return l
}

// apart tells whether no list shares memory with another one, or with those that were handed in (of which some are the same).
func apart(all, handed [][]api.Expr) bool {
	l := append(rooms(all), slices.Compact(rooms(handed))...)
	slices.SortFunc(l, func(a, b room) int { return cmp.Compare(a.from, b.from) })
	for i := 1; i < len(l); i++ {
		if l[i-1].to > l[i].from {
			return false
		}
	}
	return true
}

// texts gives the texts of an expression.
func texts(l ...api.Expr) []string {
	var all []string
	for _, e := range l {
		all = append(all, e.Val.Str, e.Var, e.Attr)
		all = append(all, texts(e.Kids...)...)
	}
	return all
}

// startsOf gives where these texts stand.
func startsOf(l []string) map[*byte]int {
	starts := map[*byte]int{}
	for _, s := range l {
		if s != "" {
			starts[unsafe.StringData(s)]++
		}
	}
	return starts
}

// asked gives expressions by which all rules are gone by, with faults and without.
func asked() []api.Expr {
	all := exprs(`a.ok AND a.ok; a.ok OR NOT NOT b.ok; -(a.x - (b.x + 1)); NOT (a.x + 1) < (b.x * 3); TRUE AND (a.x > b.x OR a.ok); a.x + b.x = a.x + b.x
		; 3 < a.x + b.x; (a.ok OR b.ok) = TRUE; (a.ok OR b.ok) = FALSE; (a.x + b.x) * 0; 0 - (a.x * b.x); (a.x + b.x) * -1; a.x * b.x + 3 + 9223372036854775807; a.x * b.x - 7 - 9
		; a.x * b.x * 3 * 4; a.x * 2 + -(b.x * 2); a.x * 2 - -(b.x * 2); -(a.x * 2) + b.x * 2; a.x * b.x + 3 = 5; "some text" = a.s; "some text"; 1 - 5; -9223372036854775807 - 1; a.x
		; a.ok AND (b.ok AND (c.ok AND (a.x > 1 OR b.x > 1))); FALSE OR FALSE; TRUE`)
	all = append(all, faulty()...)
	for i, e := range all {
		all[i] = roomy(e)
	}
	return roomyList(all)
}

func TestWhatIsHandedInStaysAsItIs(t *testing.T) {
	l, was := asked(), asked()
	for range 2 {
		for _, e := range l {
			fold.Fold(e)
			fold.Const(e)
			fold.Conds([]api.Expr{e, e})
		}
		fold.Conds(l)
	}
	if !reflect.DeepEqual(lists([][]api.Expr{l[:cap(l)]}, l...), lists([][]api.Expr{was[:cap(was)]}, was...)) {
		t.Error("P9.7: what was handed in has become something else")
	}
}

func TestAnswersAreNewMemory(t *testing.T) {
	l := asked()
	shared := exprs("a.x * b.x > 1; a.ok OR b.ok")
	l = append(l, bin(api.OAdd, shared...), bin(api.OAnd, shared[0], bin(api.OOr, shared[0], shared[0]))) // Kids of one list, in several places
	answers := [][]api.Expr{fold.Conds(l), fold.Conds(l[:5]), fold.Conds(l[:20]), fold.Conds([]api.Expr{truth(false)})}
	for _, e := range l {
		answers = append(answers, []api.Expr{fold.Fold(e)}, []api.Expr{fold.Fold(e)}, fold.Conds([]api.Expr{e}), fold.Conds([]api.Expr{e, e, e}))
	}
	var all [][]api.Expr
	for _, answer := range answers {
		all = append(lists(all, answer...), answer[:cap(answer)])
	}
	if !apart(all, nil) {
		t.Error("P9.7: answers share memory with one another")
	}
	if !apart(all, append(lists(nil, l...), l[:cap(l)])) {
		t.Error("P9.7: answers share memory with what was handed in")
	}
	handed := startsOf(texts(l...))
	for _, answer := range answers {
		for at := range startsOf(texts(answer...)) {
			if handed[at] > 0 {
				t.Fatalf("P9.7: a text of [%s] is one that was handed in", allShown(answer))
			}
		}
	}
	if v, _ := fold.Const(l[20]); startsOf(texts(l...))[unsafe.StringData(v.Str)] > 0 || v.Str != "some text" {
		t.Errorf("P9.7: the text of the value %v was handed in", v)
	}
}

// TestAnswersMayBeWritten writes into answers, and asks again.
func TestAnswersMayBeWritten(t *testing.T) {
	l := asked()
	var folded []api.Expr
	for _, e := range l {
		folded = append(folded, fold.Fold(e))
	}
	left := fold.Conds(l[:20])
	spoil := func(answer []api.Expr) {
		for _, list := range lists([][]api.Expr{answer}, answer...) {
			_ = append(list[:len(list)/2], expr("z.x"))
			clear(list)
		}
	}
	for i, e := range l {
		spoil([]api.Expr{fold.Fold(e)})
		spoil(fold.Conds([]api.Expr{e}))
		becomes(t, asked()[i], folded[i])
		becomes(t, e, folded[i])
	}
	spoil(fold.Conds(l))
	spoil(fold.Conds(l[:20]))
	keeps(t, l[:20], left...)
	keeps(t, asked()[:20], left...)
}

// TestNothingIsKept asks again when what was handed in has become something else.
func TestNothingIsKept(t *testing.T) {
	e := expr("a.x + 1 + 2")
	becomes(t, e, expr("a.x + 3"))
	e.Kids[0].Kids[1].Val.Int = 5
	becomes(t, e, expr("a.x + 7"))
	e.Kids[0].Kids[0] = number(3)
	becomes(t, e, number(10))
	is(t, e, number(10))
	e.Kids[0].Op = api.OAnd
	becomes(t, e, e)
	isNone(t, e)
	l := exprs("a.ok; b.ok")
	keeps(t, l, expr("a.ok"), expr("b.ok"))
	l[1].Var = "a"
	keeps(t, l, expr("a.ok"))
}

// TestEmptyLists asks with lists that are nil, and with empty ones.
func TestEmptyLists(t *testing.T) {
	e := bin(api.OAdd, expr("a.x"), number(0))
	e.Kids[0].Kids, e.Kids[1].Kids = []api.Expr{}, make([]api.Expr, 0, 5)
	becomes(t, e, expr("a.x"))
	is(t, e.Kids[1], number(0))
	isNone(t, api.Expr{Kids: []api.Expr{}})
	becomes(t, api.Expr{Kids: []api.Expr{}}, api.Expr{})
	keeps(t, []api.Expr{{Kids: []api.Expr{}}, {}}, api.Expr{})
}

// TestAnswersHangOnArgumentsAlone asks the same behind calls of all kinds, of many at a time.
func TestAnswersHangOnArgumentsAlone(t *testing.T) {
	var group sync.WaitGroup
	l, sum := exprs("a.x = a.x; 3 < a.x AND b.ok; a.x > 3"), expr("a.x + 1 - 2")
	least := expr("9223372036854775807 + 1")
	for range 8 {
		group.Go(func() {
			for range 200 {
				becomes(t, sum, expr("a.x - 1"))
				becomes(t, expr("0 - 9223372036854775807 - 1"), least)
				becomes(t, under(40, api.ONot, sum), under(40, api.ONot, sum))
				is(t, least, number(-1<<63))
				isNone(t, sum)
				keeps(t, l, expr("a.x > 3"), expr("b.ok"))
				keeps(t, []api.Expr{l[0], expr("1 > 2")}, truth(false))
			}
		})
	}
	group.Wait()
}
