package expand_test

import (
	"testing"

	"concord/api"
	"concord/bind"
	"concord/expand"
	"concord/score"
)

// deep is a query put into others so many times, by the ways to put one into another in turn.
func deep(q api.Query, n int, ways ...func(q api.Query) api.Query) api.Query {
	for i := range n {
		q = ways[i%len(ways)](q)
	}
	return q
}

// P17.2 to P17.4: queries nested far above MaxNest, up to what is promised.
func TestDeepQueries(t *testing.T) {
	s, cuts := exampleParts(t)
	parts := partsOf(cuts[1]...)
	leaf, want := prefix(0, "ab"), list(0, "  ", term(0, "ab", score.Idf(3, 2)), term(0, "abc", score.Idf(3, 1)))
	boosted := func(q api.Query) api.Query { return boost(1, q) }
	for _, n := range []int{100, 5000, 1<<16 - 4} {
		for _, ways := range [][]func(q api.Query) api.Query{{wraps[0]}, {boosted}, {wraps[2]}, {wraps[3]}, {wraps[5]}, {wraps[6]}, {boosted, wraps[3], wraps[5], wraps[6], wraps[0]}} {
			q := deep(leaf, n, ways...)
			if count, err := expand.Count(q, parts); count != 2 || err != nil {
				t.Fatalf("Count in %d nodes: %d, %v", n, count, err)
			}
			x, err := expand.Expand(s, q, parts)
			if err != nil || !alike(x, deep(want, n, ways...)) || bind.Check(x, 1, true) != nil {
				t.Fatalf("Expand in %d nodes: %v", n, err)
			}
			b, err := expand.Bound(x)
			if err != nil || b > api.Top {
				t.Fatalf("Bound in %d nodes: %d, %v", n, b, err)
			}
			if _, err := expand.Bound(q); err != api.ErrNode {
				t.Fatalf("Bound of a multi-term leaf in %d nodes: %v", n, err)
			}
			bad := deep(api.Query{}, n, ways...)
			if _, err := expand.Count(bad, parts); err != api.ErrNode {
				t.Fatalf("Count of a bad query in %d nodes: %v", n, err)
			}
		}
		if b, _ := expand.Bound(deep(all, n, func(q api.Query) api.Query { return boost(1, most(q)) })); b != api.One {
			t.Fatalf("Bound in %d nodes: %d", n, b)
		}
		if b, _ := expand.Bound(deep(all, n, func(q api.Query) api.Query { return boost(2, q) })); b != api.Top {
			t.Fatalf("Bound in %d nodes: %d", n, b)
		}
	}
}

// P17.2 to P17.4: wide queries, whose counts are 0 where no leaf has a term.
func TestWideQueries(t *testing.T) {
	s, cuts := exampleParts(t)
	parts := partsOf(cuts[1]...)
	const n = 20000
	kids, want := make([]api.Query, n), make([]api.Query, n)
	for i := range kids {
		kids[i], want[i] = prefix(0, "q"), none
	}
	for _, i := range []int{0, n / 2, n - 1} {
		kids[i], want[i] = fuzzy(0, 1, "ab"), list(0, "   ", boost(2, term(0, "ab", score.Idf(3, 2))), term(0, "abc", score.Idf(3, 1)), term(0, "b", score.Idf(3, 1)))
	}
	if count, err := expand.Count(most(kids...), parts); count != 9 || err != nil {
		t.Errorf("Count: %d, %v", count, err)
	}
	x, err := expand.Expand(s, most(kids...), parts)
	if err != nil || !alike(x, most(want...)) {
		t.Errorf("Expand: %v", err)
	}
	occur := make([]int, n)
	b, err := expand.Bound(api.Query{Kind: api.QList, Kids: want, Occur: occur})
	if want := 3 * 1024 * (2*score.Idf(3, 2) + 2*score.Idf(3, 1)); b != want || err != nil {
		t.Errorf("Bound: %d, %v, want %d", b, err, want)
	}
}
