package syntax_test

import (
	"math/rand"
	"runtime/debug"
	"strings"
	"testing"

	"concord/api"
	"concord/syntax"
)

// shape is a way to nest a text: by how much a wrap makes its nest greater, the nest of what stands beside it in the wrap, and its tree in the wrap.
type shape struct {
	first, last string
	by, side    int
	wrap        func(tree api.Node) api.Node
}

var shapes = []shape{
	{"(", ")", 1, 0, func(x api.Node) api.Node { return x }},
	{"NOT ", "", 1, 0, not},
	{"", "^2", 1, 0, func(x api.Node) api.Node { return boost(2, x) }},
	{"", " ^=3", 1, 0, func(x api.Node) api.Node { return fixed(3, x) }},
	{"", "^2^=3", 2, 0, func(x api.Node) api.Node { return fixed(3, boost(2, x)) }},
	{"NOT (", ")", 2, 0, not},
	{"(", ")^2", 2, 0, func(x api.Node) api.Node { return boost(2, x) }},
	{"(NOT ", ")^=3", 3, 0, func(x api.Node) api.Node { return fixed(3, not(x)) }},
	{"(", ")@2", 1, 0, func(x api.Node) api.Node { return list(2, " ", x) }},
	{"(+", " b)", 1, 0, func(x api.Node) api.Node { return list(0, "+ ", x, b) }},
	{"(b -", ")@1", 1, 0, func(x api.Node) api.Node { return list(1, " -", b, x) }},
	{"(b OR ", " OR c)", 1, 0, func(x api.Node) api.Node { return or(b, x, c) }},
	{"(b | ", " AND c^4^4)", 1, 2, func(x api.Node) api.Node { return and(most(b, x), boost(4, boost(4, c))) }},
	{"(NOT b ", "\n)", 1, 1, func(x api.Node) api.Node { return list(0, "  ", not(b), x) }},
}

// text is a text of so many wraps around a word.
func (s shape) text(n int) string {
	return strings.Repeat(s.first, n) + "a" + strings.Repeat(s.last, n)
}

// nest is the nest of that text: beside the innermost wrap's word there may stand something deeper than it.
func (s shape) nest(n int) int {
	if n == 0 {
		return 0
	}
	return n*s.by + s.side
}

// P14.1: nests up to MaxNest and one above it.
func TestNests(t *testing.T) {
	for _, s := range shapes {
		tree := a
		for n := 0; s.nest(n) <= 2*api.MaxNest; n++ {
			if s.nest(n) > api.MaxNest {
				wantDeep(t, s.text(n), s.nest(n))
			} else {
				wantTree(t, s.text(n), s.nest(n), tree)
			}
			tree = s.wrap(tree)
		}
	}
}

// P14.1: texts of wraps of every kind in one another, at MaxNest and one above it.
func TestMixedNests(t *testing.T) {
	dice := rand.New(rand.NewSource(146))
	for range 300 {
		q, nest, tree := "a", 0, a
		for nest < api.MaxNest-4 {
			s := shapes[dice.Intn(len(shapes))]
			q, nest, tree = s.first+q+s.last, max(nest, s.side)+s.by, s.wrap(tree)
			if strings.HasPrefix(q, "NOT") { // a boost would be taken by what stands behind the NOT
				q, nest = "("+q+")", nest+1
			}
		}
		for nest < api.MaxNest {
			q, nest = "("+q+")", nest+1
		}
		wantTree(t, q, nest, tree)
		wantTree(t, "b "+q+" c^2", nest, list(0, "   ", b, tree, boost(2, c)))
		wantTree(t, "b OR "+q, nest, or(b, tree))
		wantTree(t, "+"+q, nest, list(0, "+", tree))
		for _, deeper := range []string{"(" + q + ")", "NOT " + q, "b -NOT " + q, "b AND NOT " + q + " | c"} {
			wantDeep(t, deeper, nest+1)
		}
		wantDeep(t, "(b OR "+q+"^2^=3)", nest+3)
	}
}

// P14.1: the greatest nest counts, wherever it stands.
func TestGreatestNest(t *testing.T) {
	for _, n := range []int{1, api.MaxNest, api.MaxNest + 1, 1000} {
		deep := shapes[0].text(n)
		for _, q := range []string{deep, "b " + deep, deep + " b", "b " + deep + " c", deep + deep, deep + " (b)", "(b) " + deep, "b OR " + deep, deep + " AND b", "b | " + deep + " | c", "+b -" + deep} {
			nest, at, err := syntax.Check(q)
			if nest != n || at != 0 || err != nil {
				t.Fatalf("Check(%.50q) is %d, %d, %v, want %d", q, nest, at, err, n)
			}
			if _, at, err := syntax.Parse(q); at != 0 || (err == nil) != (n <= api.MaxNest) {
				t.Fatalf("Parse(%.50q) is %d, %v", q, at, err)
			}
		}
	}
}

// P14.1: a fault is told ahead of a nest too great, at its place, be it ahead of what is too deep, in it or behind.
func TestDeepFaults(t *testing.T) {
	for _, n := range []int{2, api.MaxNest, api.MaxNest + 1, api.MaxNest + 2, 1000, 100000} {
		deep := shapes[0].text(n)
		opens, closes := strings.Repeat("(", n), strings.Repeat(")", n)
		nots := strings.Repeat("NOT ", n)
		boosts := "a" + strings.Repeat("^2", n)
		for _, fault := range []struct {
			q     string
			place int
		}{
			{") " + deep, 0}, {"a~3 " + deep, 1}, {opens, n}, {opens + "a", n + 1}, {opens + ")", n}, {opens + "a" + closes[1:], 2 * n}, {deep + ")", 2*n + 1}, {deep + " OR", 2*n + 4}, {opens + "a OR" + closes, n + 4}, {opens + "a~3" + closes, n + 1},
			{"(" + deep + " t:u:a)", 2*n + 6}, {"+" + deep + " OR b", 2*n + 3}, {deep + "^2@1", 2*n + 3}, {deep + ` "`, 2*n + 2}, {") " + deep + " ^", 2*n + 4}, {nots, 4 * n}, {nots + "AND", 4 * n}, {nots + "a)", 4*n + 1}, {boosts + "~1", 2*n + 1}, {boosts + ")", 2*n + 1}, {boosts + " OR", 2*n + 4}, {"(" + boosts, 2*n + 2},
		} {
			wantFault(t, fault.q, fault.place)
		}
	}
}

// P14.1: Check doesn't mind how deep a text is nested: neither its stack nor its work grows beyond what one going over the tokens takes. (With a stack of 100000 calls in one another the test would break down; with work by the square it would not end.)
func TestFarAboveMaxNest(t *testing.T) {
	defer debug.SetMaxStack(debug.SetMaxStack(1 << 20))
	for _, s := range shapes {
		wantDeep(t, s.text(100000), s.nest(100000))
	}
	wantDeep(t, shapes[0].text(1000000), 1000000)
}

// P14.1: wide texts.
func TestWideTexts(t *testing.T) {
	const n = 100000
	kids := make([]api.Node, n+1)
	for i := range kids {
		kids[i] = a
	}
	wantTree(t, strings.Repeat("a ", n+1), 0, list(0, strings.Repeat(" ", n+1), kids...))
	wantTree(t, strings.Repeat("+a ", n+1), 0, list(0, strings.Repeat("+", n+1), kids...))
	wantTree(t, strings.Repeat("a OR ", n)+"a", 0, or(kids...))
	wantTree(t, strings.Repeat("a AND ", n)+"a", 0, and(kids...))
	wantTree(t, strings.Repeat("a|", n)+"a", 0, most(kids...))
	wantTree(t, "("+strings.Repeat("(a)", n+1)+")@3", 2, list(3, strings.Repeat(" ", n+1), kids...))
	wantFault(t, strings.Repeat("a ", n)+"OR", 2*n+2)
	long := strings.Repeat("x", n)
	wantTree(t, long+":"+long+"*", 0, in(long, prefix(long)))
}
