package printer_test

import (
	"math"
	"math/rand"
	"testing"

	"concord/api"
	"concord/printer"
)

// wantSame says whether two trees are alike, whichever is named first, alone and as kids.
func wantSame(t *testing.T, x, y api.Node, want bool) {
	t.Helper()
	for _, pair := range [][2]api.Node{{x, y}, {y, x}, {not(x), not(y)}, {or(a, x, b), or(a, y, b)}, {list(0, " +", a, x), list(0, " +", a, y)}, {{Kids: []api.Node{x}}, {Kids: []api.Node{y}}}} {
		if printer.Same(pair[0], pair[1]) != want {
			t.Fatalf("Same(%v, %v) is %v", pair[0], pair[1], !want)
		}
	}
}

// different are the ways in which two nodes may differ in one thing.
var different = []func(n *api.Node){
	func(n *api.Node) { n.Kind++ },
	func(n *api.Node) { n.Kind = -n.Kind - 1 },
	func(n *api.Node) { n.Field += "x" },
	func(n *api.Node) { n.Text += "x" },
	func(n *api.Node) { n.Text += "\x00" },
	func(n *api.Node) { n.N++ },
	func(n *api.Node) { n.N += 1 << 32 },
	func(n *api.Node) { n.N = math.MinInt },
	func(n *api.Node) { n.Lo.Open = !n.Lo.Open },
	func(n *api.Node) { n.Lo.In = !n.Lo.In },
	func(n *api.Node) { n.Lo.Text += "x" },
	func(n *api.Node) { n.Hi.Open = !n.Hi.Open },
	func(n *api.Node) { n.Hi.In = !n.Hi.In },
	func(n *api.Node) { n.Hi.Text += "x" },
	func(n *api.Node) { n.Occur = append(n.Occur, 0) },
	func(n *api.Node) { n.Occur = append([]int{7}, n.Occur...) },
	func(n *api.Node) { n.Kids = append(n.Kids, api.Node{}) },
	func(n *api.Node) { n.Kids = append(n.Kids, a) },
	func(n *api.Node) { n.Kids = append([]api.Node{{Kind: 99}}, n.Kids...) },
}

// P15.1: Same of trees that differ in one field, in an end of a span, in an Occur, in a kid.
func TestSameOfDifferent(t *testing.T) {
	full := api.Node{Kind: 77, Field: "f", Text: "t", N: -5, Lo: api.Bound{Open: true, In: true, Text: "l"}, Hi: api.Bound{Open: true, In: true, Text: "h"}, Occur: []int{1, 9, 1}, Kids: []api.Node{a, not(), {Kind: -1, Kids: []api.Node{b, c}}}}
	for _, n := range append(goodOnes(), full, not(a, b), and(), term("")) {
		wantSame(t, n, copied(n), true)
		for i, change := range different {
			m := copied(n)
			change(&m)
			wantSame(t, n, m, false)
			for j := range i {
				other := copied(n)
				different[j](&other)
				if alike(m, other) != printer.Same(m, other) {
					t.Fatalf("Same(%v, %v) is %v", m, other, printer.Same(m, other))
				}
			}
		}
		for i := range n.Kids {
			m := copied(n)
			m.Kids[i].N++
			wantSame(t, n, m, false)
			m = copied(n)
			m.Kids = m.Kids[:i]
			wantSame(t, n, m, false)
		}
		for i := range n.Occur {
			m := copied(n)
			m.Occur[i]++
			wantSame(t, n, m, false)
			m = copied(n)
			m.Occur = m.Occur[:i]
			wantSame(t, n, m, false)
		}
	}
	wantSame(t, or(a, b), or(b, a), false)
	wantSame(t, list(0, " +", a, a), list(0, "+ ", a, a), false)
	wantSame(t, span(within("a"), without("a")), span(without("a"), within("a")), false)
	wantSame(t, or(a), a, false)
	wantSame(t, or(or(a, b), c), or(a, or(b, c)), false)
	wantSame(t, api.Node{Field: "ab"}, api.Node{Field: "a", Text: "b"}, false)
}

// P15.1: an empty list is alike to none at all, spare room or not.
func TestSameOfEmptyLists(t *testing.T) {
	for _, n := range append(goodOnes(), and(), list(3, "")) {
		m := copied(n)
		if len(m.Kids) == 0 {
			m.Kids = make([]api.Node, 0, 4)
		}
		if len(m.Occur) == 0 {
			m.Occur = make([]int, 0, 4)
		}
		wantSame(t, n, m, true)
		m.Kids = append(m.Kids, api.Node{})[:len(m.Kids)]
		wantSame(t, n, m, true)
	}
	wantSame(t, api.Node{}, api.Node{Kids: []api.Node{}, Occur: []int{}}, true)
	wantSame(t, api.Node{}, api.Node{Kids: []api.Node{{}}}, false)
	wantSame(t, api.Node{}, api.Node{Occur: []int{0}}, false)
}

// P15.1: Same of many trees, good or not.
func TestSameOfMany(t *testing.T) {
	dice := rand.New(rand.NewSource(156))
	for range 10000 {
		x := madeTree(dice, 12)
		y := spoilt(dice, x)
		wantSame(t, x, y, alike(x, y))
		wantSame(t, y, copied(y), true)
		z := madeTree(dice, 3)
		wantSame(t, x, z, alike(x, z))
	}
}

// P15.1: Size counts every node, also of trees that aren't good.
func TestSize(t *testing.T) {
	for want, list := range map[int][]api.Node{
		1: {{}, a, all(), has(), {Kind: -5}, {Kind: 99, Occur: []int{1, 2, 3}}, and(), not(), list(0, "  "), span(open(), within("a")), phrase("a b c", 3)},
		2: {or(a), not(a), not(api.Node{}), boost(2, a), list(0, " ", a), {Kids: []api.Node{{}}}, {Kind: api.NTerm, Kids: []api.Node{a}}, {Kind: api.NAll, Kids: []api.Node{{}}}},
		3: {or(a, b), not(not(a)), not(a, b), fixed(0, not(a)), list(0, "", a, b), {Kind: api.NHas, Kids: []api.Node{a, a}}},
		5: {or(a, and(b, c)), list(0, "  ", not(a), not(b)), {Kind: 50, Kids: []api.Node{{}, {Kids: []api.Node{{}, {}}}}}},
		7: {or(or(a, b), or(a, b))},
	} {
		for _, n := range list {
			if got := printer.Size(n); got != want {
				t.Errorf("Size(%v) is %d, want %d", n, got, want)
			}
		}
	}
}
