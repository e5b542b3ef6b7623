package plan_test

import (
	"slices"
	"testing"

	"concord/api"
	"concord/bind"
)

// holdMeaning holds P19.2 to P19.4 over a query and parts; it tells how many live documents match.
func holdMeaning(t testing.TB, q api.Query, list []made) (int, api.Plan) {
	t.Helper()
	p := holdQuery(t, q, list)
	wantSameKids(t, q, p.Root)
	s := shelfOf(list)
	hits := 0
	for _, x := range s.live {
		want, got := s.meaning(q, x), s.meaning(p.Root, x)
		if got != want {
			t.Fatalf("%s comes to %v, ordered to %v: %s", brief(q), want, got, brief(p.Root))
		}
		if !want.hit {
			continue
		}
		hits++
		has := func(leaf api.Leaf) bool { return len(x.places[leaf]) > 0 }
		if !p.All && !slices.ContainsFunc(p.Drive, has) {
			t.Fatalf("a document of %v matches %s, and %s", x.places, brief(q), brief(p))
		}
	}
	if cost := mustCost(t, q, list); hits > cost {
		t.Fatalf("%d documents match %s, which costs %d", hits, brief(q), cost)
	}
	return hits, p
}

// wantSameKids says that two queries have the same kids at every node, each as it occurs, but for their order.
func wantSameKids(t testing.TB, q, root api.Query) {
	t.Helper()
	if told, want := sortedText(root), sortedText(q); told != want {
		t.Fatalf("%s has other kids than %s", brief(root), brief(q))
	}
}

// sortedText is a query's text with the kids of every node by what their own are.
func sortedText(q api.Query) string {
	type kid struct {
		occur int
		text  string
		query api.Query
	}
	var kids []kid
	for i, k := range q.Kids {
		one := kid{text: sortedText(k), query: k}
		if q.Kind == api.QList {
			one.occur = q.Occur[i]
		}
		kids = append(kids, one)
	}
	slices.SortFunc(kids, func(a, b kid) int {
		if a.occur != b.occur {
			return a.occur - b.occur
		}
		if a.text < b.text {
			return -1
		}
		return 1
	})
	own := q
	own.Kids, own.Occur = nil, nil
	for _, k := range kids {
		// A kid stands as its text, in the place of a term.
		own.Kids = append(own.Kids, api.Query{Kind: api.QTerm, Text: k.text})
		if q.Kind == api.QList {
			own.Occur = append(own.Occur, k.occur)
		}
	}
	return bind.Text(own)
}

// P19.2 to P19.4: made queries over made documents.
func TestMeaningOfMadeQueries(t *testing.T) {
	m := newMaker(193)
	met := kinds{}
	for range 500 {
		cut := m.parts(t)
		live := len(shelfOf(cut).live)
		for range 20 {
			q := m.within(20).query()
			hits, p := holdMeaning(t, q, cut)
			met.note("nothing matches", hits == 0 && live > 0)
			met.note("nothing matches, and leaves drive", hits == 0 && live > 0 && !p.All)
			met.note("some match", hits > 0 && hits < live)
			met.note("some match, and leaves drive", hits > 0 && hits < live && !p.All)
			met.note("all match", hits == live && live > 0)
			met.note("as many match as it costs", hits > 0 && hits == mustCost(t, q, cut))
			met.note("another order", hits > 0 && !alike(q, p.Root))
		}
	}
	met.wantMany(t, 300, "nothing matches", "nothing matches, and leaves drive", "some match", "some match, and leaves drive", "all match", "as many match as it costs", "another order")
}

// P19.2 to P19.4: lists of words with every need, over documents of many of them.
func TestMeaningOfLists(t *testing.T) {
	m := newMaker(194)
	s := mustParse(t, "t:text")
	met := kinds{}
	for range 150 {
		docs := m.docs(s, 10+m.Intn(20))
		for i := range docs {
			docs[i].Values = append(docs[i].Values, api.Value{Name: "t", Text: m.value(api.KindText) + " " + m.value(api.KindText)})
		}
		cut := []made{mustMake(t, s, docs, m.dead(len(docs))...)}
		for range 15 {
			var kids []api.Query
			signs := ""
			for range 1 + m.Intn(6) {
				kid := term(0, m.word(), m.weight())
				for range m.Intn(3) {
					kid = pickOf(m, not(kid), most(kid, term(0, m.word(), 1)), musts(kid, term(0, m.word(), 2)), boost(2, kid), shoulds(m.Intn(3), kid, term(0, m.word(), 3)), phrase(0, 3, 1, "a b"))
				}
				kids, signs = append(kids, kid), signs+pickOf(m, " ", " ", " ", "+", "-")
			}
			for need := range 5 {
				q := list(need, signs, kids...)
				hits, p := holdMeaning(t, q, cut)
				met.note("need 0", need == 0 && hits > 0)
				met.note("need 1", need == 1 && hits > 0)
				met.note("need above 1", need > 1 && hits > 0)
				met.note("leaves", hits > 0 && len(p.Drive) > 1)
				met.note("nothing", hits == 0 && !p.All)
			}
		}
	}
	met.wantMany(t, 150, "need 0", "need 1", "need above 1", "leaves", "nothing")
}

// P19.2 to P19.4: rows, among them such as nothing matches, over all cuts of the examples.
func TestMeaningOfRows(t *testing.T) {
	for _, cut := range append(examples(t), nil) {
		for _, q := range smallKids() {
			for _, wrap := range wraps {
				holdMeaning(t, wrap(q), cut)
			}
		}
		for _, q := range []api.Query{
			list(0, "-", a), list(0, "--", a, b), none, z, phrase(0, 0, 1, "c z"), shoulds(3, c, b), list(1, "+", c), musts(c, none), musts(c, z), boost(1<<63, boost(2, c)), list(0, "+-", b, b),
		} {
			if hits, p := holdMeaning(t, q, cut); p.All || hits > 0 && q.Kind != api.QBoost {
				t.Errorf("%d documents match %s: %s", hits, brief(q), brief(p))
			}
		}
	}
}
