package bind_test

import (
	"strings"
	"testing"

	"concord/api"
	"concord/bind"
)

// layer is a node that a tree is put into, and what stands ahead of and behind the kid in the text of its query.
type layer struct {
	first, last string
	nodes       int
	wrap        func(n api.Node) api.Node
}

// layers are nodes of every kind with kids; the nodes that vanish leave no trace.
func layers() []layer {
	the, x := api.Node{Kind: api.NTerm, Text: "the"}, api.Node{Kind: api.NAll}
	return []layer{
		{"(list 0 ", ")", 1, func(n api.Node) api.Node { return node(api.NList, 0, " ", n) }},
		{"(list 7 -", " +all)", 2, func(n api.Node) api.Node { return node(api.NList, 7, "-+ ", n, x, the) }},
		{"(list 0 +", ")", 1, func(n api.Node) api.Node { return node(api.NAnd, 0, "", the, n) }},
		{"(list 0 all ", ")", 2, func(n api.Node) api.Node { return node(api.NOr, 0, "", x, n) }},
		{"(max ", " all)", 2, func(n api.Node) api.Node { return node(api.NMax, 0, "", n, the, x) }},
		{"(not ", ")", 1, func(n api.Node) api.Node { return node(api.NNot, 0, "", n) }},
		{"(boost 3 ", ")", 1, func(n api.Node) api.Node { return node(api.NBoost, 3, "", n) }},
		{"(const 0 ", ")", 1, func(n api.Node) api.Node { return node(api.NConst, 0, "", n) }},
	}
}

// holdDeep holds all calls over a tree of so many layers.
func holdDeep(t *testing.T, y layer, n int) {
	t.Helper()
	s := mustParse(t, "t:text,stop")
	deep := func(text string) api.Query {
		tree := api.Node{Kind: api.NPrefix, Text: text}
		for range n {
			tree = y.wrap(tree)
		}
		q, err := bind.Bind(s, tree)
		if err != nil {
			t.Fatal(err)
		}
		return q
	}
	q := deep("ab")
	want := strings.Repeat(y.first, n) + `(prefix 0 "ab")` + strings.Repeat(y.last, n)
	if got := bind.Text(q); got != want {
		t.Fatalf("Text is %.100q, want %.100q", got, want)
	}
	if bind.Check(q, 1, false) != nil || bind.Check(q, 1, true) != api.ErrNode || bind.Check(q, 0, false) != api.ErrNode {
		t.Fatalf("Check of %.100q", want)
	}
	if got := bind.Size(q); got != n*y.nodes+1 {
		t.Fatalf("the size of %.100q is %d", want, got)
	}
	if !bind.Same(q, deep("ab")) || bind.Same(q, deep("ac")) {
		t.Fatalf("Same of %.100q", want)
	}
}

// P16.1: trees and queries nested far above MaxNest.
func TestDeepTrees(t *testing.T) {
	for i, y := range layers() {
		holdDeep(t, y, 3000)
		if i%2 == 1 {
			holdDeep(t, y, 1<<16-3)
		}
	}
}

// P16.1: a word that vanishes deep inside takes all with it.
func TestDeepVanishing(t *testing.T) {
	s := mustParse(t, "t:text,stop")
	for _, kind := range []int{api.NAnd, api.NOr, api.NMax, api.NNot, api.NBoost, api.NConst} {
		tree := api.Node{Kind: api.NTerm, Text: "the"}
		for range 10000 {
			tree = node(kind, 0, "", tree)
		}
		if q, err := bind.Bind(s, tree); err != nil || !alike(q, none) {
			t.Errorf("it is bound to %s, %v", brief(q), err)
		}
		q, err := bind.Bind(s, node(api.NList, 2, "-+", tree, api.Node{Kind: api.NAll}))
		if err != nil || !alike(q, list(2, "+", all)) {
			t.Errorf("it is bound to %s, %v", brief(q), err)
		}
	}
}

// P16.1: wide trees and queries.
func TestWideTrees(t *testing.T) {
	const n = 50000
	s := mustParse(t, "t:text,stop;k:keyword")
	kids := make([]api.Node, 2*n)
	for i := range n {
		kids[2*i] = api.Node{Kind: api.NTerm, Text: "x"}
		kids[2*i+1] = api.Node{Kind: api.NTerm, Text: "the"}
	}
	for first, tree := range map[string]api.Node{"(list 0 +": node(api.NAnd, 0, "", kids...), "(list 0 ": node(api.NOr, 0, "", kids...), "(max ": node(api.NMax, 0, "", kids...), "(list 9 -": node(api.NList, 9, strings.Repeat("-", 2*n), kids...)} {
		q, err := bind.Bind(s, tree)
		if err != nil {
			t.Fatal(err)
		}
		sign := strings.TrimLeft(first, "(listmax 09")
		want := first + strings.Repeat(`(term 0 "x" 0) `+sign, n-1) + `(term 0 "x" 0))`
		if got := bind.Text(q); got != want {
			t.Errorf("Text is %.100q, want %.100q", got, want)
		}
		if got := bind.Size(q); got != n+1 {
			t.Errorf("Size is %d", got)
		}
		other := copied(q)
		other.Kids[n-1].Text = "y"
		if bind.Same(q, other) {
			t.Error("queries that differ in their last kid are the same")
		}
		other.Kids[n-1] = api.Query{}
		if bind.Check(q, 1, true) != nil || bind.Check(other, 1, true) != api.ErrNode {
			t.Error("a bad query in a wide one isn't found")
		}
	}
}
