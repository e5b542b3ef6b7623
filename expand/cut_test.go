package expand_test

import (
	"slices"
	"testing"

	"concord/api"
	"concord/expand"
	"concord/merge"
	"concord/segment"
)

// wantAlike says that Terms, Count and Expand answer the same over parts of the same live documents.
func wantAlike(t testing.TB, s api.Schema, q api.Query, one, two []*segment.Part) {
	t.Helper()
	n, err := expand.Count(q, one)
	if m, other := expand.Count(q, two); n != m || err != other || err != nil {
		t.Fatalf("Count(%s) is %d, %v in one cut, %d, %v in another", brief(q), n, err, m, other)
	}
	x, err := expand.Expand(s, q, one)
	if y, other := expand.Expand(s, q, two); !alike(x, y) || err != other {
		t.Fatalf("Expand(%s) is %s, %v in one cut, %s, %v in another", brief(q), brief(x), err, brief(y), other)
	}
	for _, leaf := range leavesOf(q) {
		if !isMany(leaf.Kind) {
			continue
		}
		a, b := upTo(expand.Terms(one, leaf.Field, automatonOf(leaf)), 0), upTo(expand.Terms(two, leaf.Field, automatonOf(leaf)), 0)
		if !slices.Equal(a, b) {
			t.Fatalf("Terms of %s: %v in one cut, %v in another", brief(leaf), a, b)
		}
	}
}

// queries are many queries over a schema, with one of each kind of multi-term leaf that means all terms.
func (m *maker) queries(s api.Schema, n int) []api.Query {
	var out []api.Query
	for field := range s.Fields {
		out = append(out, everything(field), prefix(field, ""), wild(field, "*"), fuzzy(field, 2, "ab"), not(everything(field)))
	}
	for range n {
		out = append(out, m.within(15).query(s, m.weight))
	}
	return out
}

// P17.1 and P17.5: every way to cut seven documents into runs, with dead ones between them and without.
func TestEveryCut(t *testing.T) {
	m := newMaker(177)
	s := mustParse(t, "t:text,fold,stop,stem;k:keyword;n:number;raw:text")
	docs := m.docs(s, 7)
	whole := mustMake(t, s, docs)
	queries := m.queries(s, 25)
	for cut := range 64 {
		var clean, dirty []made
		first := 0
		for i := range docs {
			if i == 6 || cut>>i&1 == 1 {
				clean = append(clean, mustMake(t, s, docs[first:i+1]))
				dirty = append(dirty, mustKill(t, whole, append(run(0, first), run(i+1, 7)...)...))
				first = i + 1
			}
		}
		backwards := slices.Clone(clean)
		slices.Reverse(backwards)
		backwards = append(backwards, mustMake(t, s, nil), mustKill(t, whole, run(0, 7)...))
		for _, q := range queries {
			wantAlike(t, s, q, partsOf(whole), partsOf(clean...))
			wantAlike(t, s, q, partsOf(whole), partsOf(dirty...))
			wantAlike(t, s, q, partsOf(whole), partsOf(backwards...))
		}
	}
}

// P17.1 and P17.5: documents spread over parts by chance, others dead among them; and all of them merged.
func TestSpreadDocuments(t *testing.T) {
	m := newMaker(178)
	for range 60 {
		s := m.schema()
		docs := m.docs(s, m.Intn(40))
		dead := m.dead(len(docs))
		whole := mustMake(t, s, docs, dead...)
		spread := m.spread(t, s, docs, dead)
		image, err := merge.Merge(s, partsOf(whole))
		if err != nil {
			t.Fatal(err)
		}
		g, err := segment.Open(s, image)
		if err != nil {
			t.Fatal(err)
		}
		for _, q := range m.queries(s, 20) {
			wantAlike(t, s, q, partsOf(whole), partsOf(spread...))
			wantAlike(t, s, q, partsOf(whole), []*segment.Part{mustPart(t, g, nil)})
		}
	}
}

// spread are parts that have each live document once; a dead one may stand in any part, or in several.
func (m *maker) spread(t testing.TB, s api.Schema, docs []api.Doc, dead []int) []made {
	t.Helper()
	n := 1 + m.Intn(6)
	places := make([]int, len(docs))
	for i := range places {
		places[i] = m.Intn(n)
	}
	var list []made
	for k := range n {
		var some []api.Doc
		var gone []int
		for i, d := range docs {
			isDead := slices.Contains(dead, i)
			if places[i] != k && !(isDead && m.coin()) {
				continue
			}
			if isDead {
				gone = append(gone, len(some))
			}
			some = append(some, d)
		}
		list = append(list, mustMake(t, s, some, gone...))
	}
	return list
}

// P17.5: the same count above MaxTerms, and the same refusal, however the terms are cut.
func TestCutsAboveMaxTerms(t *testing.T) {
	s := mustParse(t, "t:text")
	docs := manyWords("w", 2500)
	whole := mustMake(t, s, docs)
	var pieces []made
	for i := range docs {
		pieces = append(pieces, mustMake(t, s, docs[i:i+1]), mustKill(t, whole, run(0, len(docs))...))
	}
	for _, q := range []api.Query{prefix(0, "w"), prefix(0, "w1"), not(wild(0, "w*")), fuzzy(0, 2, "w1"), everything(0)} {
		wantAlike(t, s, q, partsOf(whole), partsOf(pieces...))
	}
}
