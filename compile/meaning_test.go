package compile_test

import (
	"fmt"
	"slices"
	"strings"
	"testing"

	"concord/api"
	"concord/plan"
	"concord/score"
)

// holdRuns holds the runs of a plan's program over all parts against what its Root means: they tell the live documents that match, if All is true or each of them has a token of a leaf of Drive; and without that, those of them that have one.
func holdRuns(t testing.TB, pl api.Plan, s api.Schema, cut []made, met kinds) int {
	t.Helper()
	p := holdPlan(t, pl, score.Gather(s, partsOf(cut)))
	shelf := shelfOf(cut)
	hits := 0
	for i, m := range cut {
		var want []api.Hit
		for _, x := range m.sheets {
			if v := shelf.meaning(pl.Root, x); !x.dead && v.hit && (pl.All || x.hasOne(pl.Drive)) {
				want = append(want, api.Hit{Id: x.id, Score: v.score})
			}
		}
		if got := newMachine(p, m.part, met).run(); !slices.Equal(got, want) {
			t.Fatalf("%s comes to %v in part %d, want %v: %s", brief(pl), got, i, want, brief(p))
		}
		hits += len(want)
	}
	return hits
}

// matching are the live documents that match.
func (s shelf) matching(q api.Query) []sheet {
	var out []sheet
	for _, x := range s.live {
		if s.meaning(q, x).hit {
			out = append(out, x)
		}
	}
	return out
}

// drive are leaves of which each of the documents has one at least, in any order, now and then with others; false, if one of them has no token.
func (m *maker) drive(docs []sheet) ([]api.Leaf, bool) {
	var out []api.Leaf
	for _, x := range docs {
		if out != nil && x.hasOne(out) && m.Intn(4) > 0 {
			continue
		}
		var own []api.Leaf
		for leaf := range x.places {
			own = append(own, leaf)
		}
		if len(own) == 0 {
			return nil, false
		}
		slices.SortFunc(own, func(a, b api.Leaf) int { return strings.Compare(fmt.Sprint(a), fmt.Sprint(b)) })
		leaf := own[m.Intn(len(own))]
		for range 1 + m.Intn(2) {
			out = append(out, leaf)
		}
	}
	for range m.Intn(3) {
		out = append(out, api.Leaf{Term: m.text()})
	}
	m.Shuffle(len(out), func(i, j int) { out[i], out[j] = out[j], out[i] })
	return out, true
}

// holdMeaning holds P22.3 over a query and parts, with all that may drive it. It answers how many documents match.
func (m *maker) holdMeaning(t testing.TB, q api.Query, s api.Schema, cut []made, met kinds) int {
	t.Helper()
	docs := shelfOf(cut).matching(q)
	plans := []api.Plan{every(q)}
	for _, on := range []bool{true, false} {
		pl, err := plan.Make(q, partsOf(cut), on)
		if err != nil {
			t.Fatal(err)
		}
		plans = append(plans, pl)
		met.note("planned leaves", !pl.All && len(docs) > 0)
	}
	if drive, ok := m.drive(docs); ok {
		plans = append(plans, api.Plan{Root: q, Drive: drive})
		met.note("drawn leaves", len(docs) > 0)
	}
	for _, pl := range plans {
		if hits := holdRuns(t, pl, s, cut, met); hits != len(docs) {
			t.Fatalf("%s comes to %d hits, but %d documents match", brief(pl), hits, len(docs))
		}
	}
	return len(docs)
}

// operations are the names of what an operation comes to, one way and the other. An opt is come to only where the value below hits.
func operations() []string {
	var names []string
	for _, name := range strings.Fields("has term phrase and or max except not scale fix least miss hit") {
		names = append(names, name, "no "+name)
	}
	return append(names, "all", "no none", "opt")
}

// P22.3: drawn queries over drawn parts.
func TestMeaningOfDrawnPlans(t *testing.T) {
	m := newMaker(226)
	met := kinds{}
	for range 500 {
		s, cut := m.cut(t)
		live := len(shelfOf(cut).live)
		for range 15 {
			q := m.within(25).query(len(s.Fields))
			hits := m.holdMeaning(t, q, s, cut, met)
			met.note("nothing matches", hits == 0 && live > 0)
			met.note("some match", hits > 0 && hits < live)
			met.note("all match", hits == live && live > 1)
			met.note("several parts", hits > 0 && len(cut) > 1)
			// Any leaves: they may be too few for what matches.
			pl := api.Plan{Root: q}
			for range m.Intn(3) {
				pl.Drive = append(pl.Drive, api.Leaf{Field: m.field(len(s.Fields)), Term: m.text()})
			}
			met.note("too few leaves", holdRuns(t, pl, s, cut, met) < hits)
		}
	}
	met.wantMany(t, 300, "nothing matches", "some match", "all match", "several parts", "planned leaves", "drawn leaves", "too few leaves")
	met.wantMany(t, 300, operations()...)
}

// subsets are documents of one field, one for each set of the first n letters, the letters of some several times, cut into parts, with one dead in each.
func subsets(t testing.TB, s api.Schema, n int) []made {
	t.Helper()
	var texts []string
	for set := range 1 << n {
		text := ""
		for i := range n {
			if set>>i&1 == 1 {
				text += strings.Repeat(string(rune('a'+i))+" ", 1+(set+i)%3)
			}
		}
		texts = append(texts, text)
	}
	half := len(texts) / 2
	// A dead document of each part stands in it twice: the second one lives.
	first, second := append([]string{texts[1]}, texts[:half]...), append(slices.Clone(texts[half:]), texts[len(texts)-1])
	return []made{mustMake(t, s, inField(0, "t", first...), 0), mustMake(t, s, inField(len(first), "t", second...), len(second)-1)}
}

// P22.3: every list of up to five words, with every need, over a document for each set of them, in full and where only counts what matches.
func TestMeaningOfLists(t *testing.T) {
	m := newMaker(227)
	s := mustParse(t, "t:text")
	met := kinds{}
	cut := subsets(t, s, 5)
	eachOrder(func(signs string, need int) {
		if len(signs) > 5 || len(signs) == 5 && m.Intn(4) > 0 {
			return
		}
		var kids []api.Query
		for i := range len(signs) {
			kids = append(kids, term(0, string(rune('a'+i)), uint64(1+i*i)))
		}
		q := list(need, signs, kids...)
		for _, other := range []api.Query{q, not(q), fixed(3, q), list(0, "+-", all, q), list(0, "+ ", all, q)} {
			m.holdMeaning(t, other, s, cut, met)
		}
	})
	met.wantMany(t, 1000, strings.Fields("and or opt except least miss hit")...)
}

// P22.3: each kind within each, over a few documents of two fields.
func TestMeaningWithin(t *testing.T) {
	m := newMaker(228)
	s := mustParse(t, "t:text;u:text")
	docs := inField(3, "t", "a b a", "b", "", "c b a b", "a b", "c c")
	docs = append(docs, inField(20, "u", "x", "a x", "a a", "b")...)
	docs = append(docs, api.Doc{Id: 30, Values: []api.Value{{Name: "u", Text: "a x"}, {Name: "t", Text: "b a b c"}}})
	cut := []made{mustMake(t, s, docs[:5], 1), mustMake(t, s, nil), mustMake(t, s, docs[5:], 3)}
	met := kinds{}
	for _, leaf := range plainLeaves() {
		for _, near := range wraps {
			for _, far := range wraps {
				m.holdMeaning(t, far(near(leaf)), s, cut, met)
			}
		}
	}
	met.wantMany(t, 300, operations()...)
}
