package check_test

import (
	"strings"
	"testing"

	"refrain/api"
)

// mixed is a pattern with two many components, and a negation ahead of and behind the second one.
const mixed = "SEQ(Trade a, Trade+ b[], !(Trade n), Trade+ c[], !(Trade m), Trade d)"

// sorts are the references to its components, those of one sort in a row: by what the chapter says of them they are alike.
func sorts() map[string][]string {
	return map[string][]string{
		"a": {"a.price", "a.time"}, "d": {"d.price", "d.time"}, "n": {"n.price", "n.time"}, "m": {"m.price", "m.time"},
		"bi": {"b[i].price", "b[i-1].time", "count(b[..i-1])", "max(b[..i-1].price)"}, "bf": {"b[first].price"}, "bl": {"b[last].price", "count(b)", "sum(b.time)"},
		"ci": {"c[i].time", "c[i-1].price", "count(c[..i-1])", "min(c[..i-1].time)"}, "cf": {"c[first].time"}, "cl": {"c[last].time", "count(c)", "max(c.price)"},
	}
}

// pairs tells in each row which sorts of references may stand beside the first one in a condition.
const pairs = `
a: a d n m bi bf bl ci cf cl
d: a d bf bl cf cl
n: a n bf bl
m: a m bf bl cf cl
bi: a bi bf
bf: a d n m bi bf bl ci cf cl
bl: a d n m bf bl ci cf cl
ci: a bf bl ci cf
cf: a d m bf bl ci cf cl
cl: a d m bf bl cf cl
`

// beside tells whether two sorts may stand together.
func beside(one, other string) bool {
	_, behind, _ := strings.Cut(pairs, "\n"+one+":")
	row, _, _ := strings.Cut(behind, "\n")
	return strings.Contains(row+" ", " "+other+" ")
}

// spoken is a reference with its sort.
type spoken struct{ text, sort string }

func allSpoken() []spoken {
	var l []spoken
	for sort, texts := range sorts() {
		for _, text := range texts {
			l = append(l, spoken{text, sort})
		}
	}
	return l
}

// mixes sees whether references may stand together in a condition and in an output.
func mixes(t *testing.T, q api.Query, refs ...spoken) {
	t.Helper()
	cond, item := none(), none()
	var texts []string
	for _, one := range refs {
		texts = append(texts, one.text)
		if strings.Contains("n m bi ci", one.sort) {
			item = in(api.InItems, 0, api.ErrMix)
		}
		for _, other := range refs {
			if !beside(one.sort, other.sort) {
				cond = in(api.InWhere, 0, api.ErrMix)
			}
		}
	}
	sum := expr(strings.Join(texts, " + "))
	asked := q
	asked.Where = []api.Expr{{Kind: api.EBin, Op: api.OGt, Kids: []api.Expr{sum, expr("1")}}}
	told(t, asked, declared(), cond)
	asked = q
	asked.Items = []api.Item{{Name: "x", Expr: sum}}
	told(t, asked, declared(), item)
}

func TestMixtures(t *testing.T) {
	q := read(t, mixed)
	all := allSpoken()
	for _, one := range all {
		mixes(t, q, one)
		for _, two := range all {
			if beside(one.sort, two.sort) != beside(two.sort, one.sort) {
				t.Fatalf("the table is at odds with itself: %s, %s", one.sort, two.sort)
			}
			mixes(t, q, one, two)
			for _, three := range all {
				mixes(t, q, one, two, three)
			}
		}
	}
}

// TestEveryReferenceCounts asks wherever it stands, and whatever stands around it.
func TestEveryReferenceCounts(t *testing.T) {
	for _, cond := range []string{
		"b[i].price > 1 AND (FALSE AND c[i].price > 1)",
		"TRUE OR b[i].price * 0 = c[i].price * 0",
		"NOT (b[i].sym = d.sym)",
		"b[i].live OR (b[i].live OR (b[i].live OR (b[i].live OR d.live)))",
		"d.live OR NOT NOT (b[i].price - - -1 > 0)",
		"count(b[..i-1]) = 0 OR count(b) = 1",
		"n.sym = a.sym OR m.sym = a.sym",
		"n.price = n.price + 0 * count(c)",
		"d.price = d.price AND m.live",
	} {
		tells(t, mixed+" WHERE any { "+cond+" }", in(api.InWhere, 0, api.ErrMix))
		tells(t, mixed+" WHERE any { TRUE, "+cond+" }", in(api.InWhere, 1, api.ErrMix))
	}
	// What stands in different conditions may not be mixed in one.
	tells(t, mixed+" WHERE any { b[i].live, c[i].live, d.live, n.live, m.live, count(b) = 1, count(c) = 1 }", none())
	for _, item := range []string{"1 + 0 * b[i].price", "NOT (FALSE AND n.live)", "count(b) + (count(c) + (a.price + count(c[..i-1])))"} {
		tells(t, mixed+" RETURN (x = a.price, y = "+item+")", in(api.InItems, 1, api.ErrMix))
	}
	tells(t, mixed+" RETURN (x = a.price + d.price + b[first].price + b[last].price + count(b) + sum(c.price) * c[last].time)", none())
}

// TestMixturesOfOneComponent asks where there is no other one, and at the pattern's ends.
func TestMixturesOfOneComponent(t *testing.T) {
	for cond, fault := range map[string]api.Fault{
		"a[i].price > a[i-1].price AND a[first].price < min(a[..i-1].price) + count(a[..i-1])": none(),
		"a[i].price > a[last].price":                 in(api.InWhere, 0, api.ErrMix),
		"a[first].price < a[last].price":             none(),
		"sum(a.price) > a[last].price * count(a)":    none(),
		"sum(a.price) > sum(a[..i-1].price)":         in(api.InWhere, 0, api.ErrMix),
		"a[i-1].price + a[first].time > max(a.time)": in(api.InWhere, 0, api.ErrMix),
	} {
		tells(t, "SEQ(Trade+ a[]) WHERE any { "+cond+" }", fault)
	}
	tells(t, "SEQ(Trade+ a[], Trade b) WHERE any { a[i].price > b.price }", in(api.InWhere, 0, api.ErrMix))
	tells(t, "SEQ(Trade b, Trade+ a[]) WHERE any { a[i].price > b.price }", none())
	tells(t, "SEQ(Trade a, !(Note n), !(Note m), Trade b) WHERE any { n.sym = m.sym }", in(api.InWhere, 0, api.ErrMix))
	tells(t, "SEQ(Trade a, !(Note n), !(Note m), Trade b) WHERE any { n.sym = n.text, m.sym = a.sym }", none())
}
