package plan_test

import (
	"fmt"
	"slices"
	"strings"
	"testing"

	"concord/api"
	"concord/plan"
)

// word is the term number i, which no part has.
func word(i int) api.Query { return term(0, fmt.Sprintf("w%06d", i), 0) }

// wordLeaves are the leaves of the terms 0 .. n - 1.
func wordLeaves(n int) []api.Leaf {
	var out []api.Leaf
	for i := range n {
		out = append(out, api.Leaf{Term: word(i).Text})
	}
	return out
}

// pile is a way to put a query into another one, again and again, how it is ordered, what the whole of n times costs and what drives it.
type pile struct {
	name          string
	seed          api.Query
	wrap, ordered func(q api.Query, i int) api.Query
	cost          func(n int) int
	drive         func(n int) []api.Leaf // nil: all documents
}

// piles are piles of every kind that has kids, over the parts of the examples.
func piles() []pile {
	still := func(n int) func(int) int { return func(int) int { return n } }
	only := func(words string) func(int) []api.Leaf {
		return func(int) []api.Leaf { return append([]api.Leaf{}, leaves(words)...) }
	}
	same := func(wrap func(q api.Query, i int) api.Query) (one, two func(q api.Query, i int) api.Query) {
		return wrap, wrap
	}
	with := func(p pile, wrap func(q api.Query, i int) api.Query) pile {
		p.wrap, p.ordered = same(wrap)
		return p
	}
	withAll := func(words string) func(n int) []api.Leaf {
		return func(n int) []api.Leaf { return append(leaves(words), wordLeaves(n)...) }
	}
	return []pile{
		with(pile{name: "boosts", seed: b, cost: still(4), drive: only("b")}, func(q api.Query, i int) api.Query { return boost(uint64(i), q) }),
		with(pile{name: "constants", seed: b, cost: still(4), drive: only("b")}, func(q api.Query, i int) api.Query { return fixed(uint64(i), q) }),
		with(pile{name: "nots", seed: b, cost: still(10)}, func(q api.Query, i int) api.Query { return not(q) }),
		with(pile{name: "lists of one must", seed: b, cost: still(4), drive: only("b")}, func(q api.Query, i int) api.Query { return musts(q) }),
		with(pile{name: "lists of one should", seed: b, cost: still(4), drive: only("b")}, func(q api.Query, i int) api.Query { return shoulds(1, q) }),
		with(pile{name: "lists that never match", seed: b, cost: still(0), drive: only("")}, func(q api.Query, i int) api.Query { return shoulds(2, q) }),
		{"maxima", b, func(q api.Query, i int) api.Query { return most(q, word(i)) }, func(q api.Query, i int) api.Query { return most(word(i), q) }, still(4), withAll("b")},
		with(pile{name: "maxima behind", seed: b, cost: still(4), drive: withAll("b")}, func(q api.Query, i int) api.Query { return most(word(i), q) }),
		{"maxima of one more", b, func(q api.Query, i int) api.Query { return most(q, a) }, func(q api.Query, i int) api.Query { return most(a, q) }, func(n int) int { return 4 + n }, only("a b")},
		{"shoulds", b, func(q api.Query, i int) api.Query { return shoulds(0, q, word(i)) }, func(q api.Query, i int) api.Query { return shoulds(0, word(i), q) }, still(4), withAll("b")},
		{"two of three", b, func(q api.Query, i int) api.Query { return list(2, " +  ", all, c, q, word(i)) }, func(q api.Query, i int) api.Query { return list(2, "+   ", c, word(i), q, all) }, still(7), withAll("b")},
		{"musts with nots", b, func(q api.Query, i int) api.Query { return list(0, " -+-", c, z, q, c) }, func(q api.Query, i int) api.Query { return list(0, "+-- ", q, c, z, c) }, still(4), only("b")},
		{"musts beside all", b, func(q api.Query, i int) api.Query { return musts(all, q, c) }, func(q api.Query, i int) api.Query { return musts(q, c, all) }, still(4), only("b")},
	}
}

// P19.1: queries nested far above MaxNest, up to what is promised.
func TestDeepQueries(t *testing.T) {
	cut := examples(t)[2]
	for _, p := range piles() {
		for _, n := range []int{1, 2, 3, 10, 64, 65, 1<<16 - 4} {
			q, root := p.seed, p.seed
			for i := range n {
				q, root = p.wrap(q, i), p.ordered(root, i)
			}
			if n < 40 {
				holdMeaning(t, q, cut)
			}
			if cost, err := plan.Cost(q, partsOf(cut)); cost != p.cost(n) || err != nil {
				t.Fatalf("%s, %d of them: Cost is %d, %v, want %d", p.name, n, cost, err, p.cost(n))
			}
			want := api.Plan{Root: root, All: p.drive == nil}
			if !want.All {
				want.Drive = p.drive(n)
			}
			if got, err := plan.Make(q, partsOf(cut), true); err != nil || !alikePlans(got, want) {
				t.Fatalf("%s, %d of them: Make is %s, %v, want %s", p.name, n, brief(got), err, brief(want))
			}
			if got, err := plan.Make(q, partsOf(cut), false); err != nil || !alikePlans(got, api.Plan{Root: q, All: true}) {
				t.Fatalf("%s, %d of them: Make without on is %s, %v", p.name, n, brief(got), err)
			}
		}
	}
}

// P19.1: deep below, what isn't good or isn't plain is found.
func TestDeepRefusals(t *testing.T) {
	cut := examples(t)[2]
	for _, p := range piles() {
		for _, q := range []api.Query{{}, manyTermOnes()[0], term(api.MaxFields, "a", 0)} {
			for i := range 5000 {
				q = p.wrap(q, i)
			}
			if n, err := plan.Cost(q, partsOf(cut)); n != 0 || err != api.ErrNode {
				t.Errorf("%s: Cost is %d, %v", p.name, n, err)
			}
			if got, err := plan.Make(q, partsOf(cut), true); err != api.ErrNode || !alikePlans(got, api.Plan{}) {
				t.Errorf("%s: Make is %v", p.name, err)
			}
		}
	}
}

// P19.1: wide queries, of kids in a falling and in a rising order, and of one kid again and again.
func TestWideQueries(t *testing.T) {
	const n = 30000
	cut := examples(t)[2]
	var up, down, again []api.Query
	for i := range n {
		// Costs 1, 3, 4 and 7, each for a quarter; weights tell apart what costs the same.
		kid := []api.Query{a, x, b, c}[i*4/n]
		kid.Weight = uint64(i)
		up, again = append(up, kid), append(again, b)
	}
	for _, kid := range []api.Query{c, b, x, a} {
		for _, k := range up {
			if k.Text == kid.Text {
				down = append(down, k)
			}
		}
	}
	nots := strings.Repeat("-", n)
	for _, r := range []struct {
		q, root api.Query
		cost    int
		drive   string
	}{
		{most(down...), most(up...), n / 4 * 15, "a b c x"}, {most(up...), most(up...), n / 4 * 15, "a b c x"}, {shoulds(0, down...), shoulds(0, up...), n / 4 * 15, "a b c x"}, {shoulds(n/4*3+1, down...), shoulds(n/4*3+1, up...), n / 4 * 15, "a"}, {shoulds(n/4*3, down...), shoulds(n/4*3, up...), n / 4 * 15, "a x"}, {shoulds(n, down...), shoulds(n, up...), n / 4 * 15, "a"}, {shoulds(n+1, down...), shoulds(n+1, up...), 0, ""},
		{musts(down...), musts(up...), 1, "a"}, {list(0, nots+"+", append(slices.Clone(up), b)...), list(0, "+"+nots, append([]api.Query{b}, down...)...), 4, "b"}, {most(again...), most(again...), 4 * n, "b"}, {musts(most(again...), c), musts(c, most(again...)), 7, "b"},
		{phrase(0, 0, 0, strings.Repeat("c ", n)+"b x b x"), phrase(0, 0, 0, strings.Repeat("c ", n)+"b x b x"), 3, "x"},
	} {
		if cost, err := plan.Cost(r.q, partsOf(cut)); cost != r.cost || err != nil {
			t.Errorf("Cost(%.100s) is %d, %v, want %d", brief(r.q), cost, err, r.cost)
		}
		want := api.Plan{Root: r.root, Drive: leaves(r.drive)}
		if got, err := plan.Make(r.q, partsOf(cut), true); err != nil || !alikePlans(got, want) {
			t.Errorf("Make(%.100s) is %.200s, %v, Drive %v", brief(r.q), brief(got.Root), err, got.Drive)
		}
	}
}
