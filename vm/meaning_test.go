package vm_test

import (
	"cmp"
	"fmt"
	"slices"
	"strings"
	"testing"

	"concord/api"
	"concord/bind"
	"concord/compile"
	"concord/cursor"
	"concord/expand"
	"concord/plan"
	"concord/rewrite"
	"concord/score"
	"concord/segment"
	"concord/syntax"
	"concord/vm"
)

// shelf is the live documents of parts. The model of what a query means goes by DOC.md's section Meaning over them alone.
type shelf struct {
	live []sheet
	avgs [api.MaxFields]int
}

func shelfOf(cut []made) shelf {
	var s shelf
	for _, m := range cut {
		s.live = append(s.live, m.live()...)
	}
	for field := range s.avgs {
		for _, x := range s.live {
			s.avgs[field] += x.lengths[field]
		}
		s.avgs[field] /= max(len(s.live), 1)
	}
	return s
}

// match is whether a document matches, and with which score.
type match struct {
	hit   bool
	score uint64
}

func matchIf(hit bool, score uint64) match {
	if !hit {
		return match{}
	}
	return match{true, score}
}

// meaning is what an expanded query comes to for a document.
func (s shelf) meaning(q api.Query, x sheet) match {
	switch q.Kind {
	case api.QAll:
		return match{true, api.One}
	case api.QHas:
		return matchIf(x.lengths[q.Field] >= 1, api.One)
	case api.QTerm:
		freq := len(x.places[api.Leaf{Field: q.Field, Term: q.Text}])
		return matchIf(freq >= 1, q.Weight*score.Sat(freq, x.lengths[q.Field], s.avgs[q.Field]))
	case api.QPhrase:
		var lists [][]int
		for _, text := range q.Terms {
			lists = append(lists, x.places[api.Leaf{Field: q.Field, Term: text}])
		}
		freq := cursor.PhraseFreq(lists, q.Offs, q.N)
		return matchIf(freq >= 1, q.Weight*score.Sat(freq, x.lengths[q.Field], s.avgs[q.Field]))
	case api.QList:
		return s.listMeaning(q, x)
	case api.QMax:
		var out match
		for _, kid := range q.Kids {
			m := s.meaning(kid, x)
			out = match{out.hit || m.hit, max(out.score, m.score)}
		}
		return out
	case api.QNot:
		return match{hit: !s.meaning(q.Kids[0], x).hit}
	case api.QBoost:
		m := s.meaning(q.Kids[0], x)
		return matchIf(m.hit, q.Weight*m.score)
	case api.QConst:
		return matchIf(s.meaning(q.Kids[0], x).hit, q.Weight*api.One)
	}
	return match{}
}

func (s shelf) listMeaning(q api.Query, x sheet) match {
	met, sum, need := 0, uint64(0), q.N
	if need == 0 && !slices.Contains(q.Occur, api.Must) {
		need = 1
	}
	for i, kid := range q.Kids {
		m := s.meaning(kid, x)
		switch {
		case q.Occur[i] == api.MustNot && m.hit, q.Occur[i] == api.Must && !m.hit:
			return match{}
		case q.Occur[i] == api.Should && m.hit:
			met++
		}
		if q.Occur[i] != api.MustNot {
			sum += m.score
		}
	}
	return matchIf(met >= need, sum)
}

// queryText tells a query for a failed test.
func queryText(q api.Query) string {
	text := bind.Text(q)
	return text[:min(len(text), 1500)]
}

// partsOf are the parts of a list.
func partsOf(cut []made) []*segment.Part {
	var parts []*segment.Part
	for _, m := range cut {
		parts = append(parts, m.part)
	}
	return parts
}

// compiled is the program of a normal query over parts.
func compiled(t testing.TB, q api.Query, s api.Schema, parts []*segment.Part, on bool) api.Prog {
	t.Helper()
	pl, err := plan.Make(q, parts, on)
	if err != nil {
		t.Fatalf("Make of %s: %v", queryText(q), err)
	}
	p, err := compile.Program(pl, score.Gather(s, parts))
	if err != nil {
		t.Fatalf("Program of %s: %v", queryText(q), err)
	}
	return p
}

// holdMeaning holds P23.4 over a normal query and parts, and all else over its programs. It answers how many documents match.
func holdMeaning(t testing.TB, q api.Query, s api.Schema, cut []made, met kinds) int {
	t.Helper()
	if !rewrite.Is(q) {
		t.Fatalf("%s isn't normal", queryText(q))
	}
	shelf := shelfOf(cut)
	hits := 0
	for _, on := range []bool{true, false} {
		p := compiled(t, q, s, partsOf(cut), on)
		hits = 0
		for i, over := range cut {
			var want []api.Hit
			for _, x := range over.live() {
				if m := shelf.meaning(q, x); m.hit {
					want = append(want, api.Hit{Id: x.id, Score: m.score})
				}
			}
			if run := hold(t, p, over, met); !slices.Equal(run.Hits, want) {
				t.Fatalf("%s with the optimiser %v comes to %v in part %d, not %v: %s", queryText(q), on, run.Hits, i, want, brief(p))
			}
			hits += len(want)
			met.note("leaves drive", on && !p.All && len(want) > 0)
			met.note("all documents drive", on && p.All && len(want) > 0)
		}
	}
	return hits
}

// leafQuery is a query without kids.
func (m *maker) leafQuery(fields int) api.Query {
	switch m.Intn(18) {
	case 0:
		return api.Query{Kind: api.QNone}
	case 1:
		return api.Query{Kind: api.QAll}
	case 2, 3:
		return api.Query{Kind: api.QHas, Field: m.field(fields)}
	case 4, 5, 6:
		q := api.Query{Kind: api.QPhrase, Field: m.field(fields), N: pickOf(m, 0, 1, 5, 1000, api.MaxNumber), Weight: m.weight()}
		for range 1 + m.Intn(1+m.Intn(4)) {
			q.Terms = append(q.Terms, m.text())
			q.Offs = append(q.Offs, pickOf(m, 0, 1, 2, m.Intn(10), m.Intn(10), api.EndDoc-1))
		}
		return q
	}
	return api.Query{Kind: api.QTerm, Field: m.field(fields), Text: m.text(), Weight: m.weight()}
}

// query is a good, plain query over so many fields.
func (m *maker) query(fields int) api.Query {
	m.room--
	if m.room <= 0 || m.Intn(8) == 0 {
		return m.leafQuery(fields)
	}
	q := api.Query{Kids: []api.Query{m.query(fields)}}
	switch m.Intn(15) {
	case 0:
		q.Kind = api.QNot
		return q
	case 1:
		q.Kind, q.Weight = api.QBoost, m.weight()
		return q
	case 2:
		q.Kind, q.Weight = api.QConst, m.weight()
		return q
	}
	occur := []int{m.Intn(3)}
	for range m.Intn(6) {
		q.Kids = append(q.Kids, m.query(fields))
		occur = append(occur, pickOf(m, api.Should, api.Should, api.Must, api.MustNot))
	}
	if m.Intn(4) == 0 {
		q.Kind = api.QMax
		return q
	}
	q.Kind, q.Occur, q.N = api.QList, occur, pickOf(m, 0, 0, 0, 1, 2, 3, len(q.Kids), api.MaxNumber)
	return q
}

// P23.4: drawn normal queries over drawn parts.
func TestDrawnQueries(t *testing.T) {
	m := newMaker(234)
	met := kinds{}
	for range 400 {
		s, cut := m.cut(t, 4)
		live := len(shelfOf(cut).live)
		for range 10 {
			m.room = 1 + m.Intn(25)
			q, err := rewrite.Normal(m.query(len(s.Fields)))
			if err != nil {
				t.Fatal(err)
			}
			hits := holdMeaning(t, q, s, cut, met)
			met.note("nothing matches", hits == 0 && live > 0 && q.Kind != api.QNone)
			met.note("some match", hits > 0 && hits < live)
			met.note("all match", hits == live && live > 1)
			met.note("several parts", hits > 0 && len(cut) > 1)
			for _, kind := range kindsIn(q, nil) {
				met.note(fmt.Sprint("the kind ", kind), hits > 0)
			}
		}
	}
	met.wantMany(t, 150, "nothing matches", "some match", "all match", "several parts", "leaves drive", "all documents drive")
	for _, kind := range []int{api.QAll, api.QHas, api.QTerm, api.QPhrase, api.QList, api.QMax, api.QNot, api.QConst} {
		met.wantMany(t, 50, fmt.Sprint("the kind ", kind))
	}
	for _, name := range strings.Fields("has term phrase and or max opt except not fix least miss hit") {
		met.wantMany(t, 300, name)
	}
}

// kindsIn are the kinds that stand in a query, behind those that are there.
func kindsIn(q api.Query, list []int) []int {
	list = append(list, q.Kind)
	for _, kid := range q.Kids {
		list = kindsIn(kid, list)
	}
	return list
}

// answer is what a query text comes to over parts: the hits by falling score, those of one score by rising id.
func answer(t testing.TB, text string, s api.Schema, cut []made, on bool) []api.Hit {
	t.Helper()
	tree, _, err := syntax.Parse(text)
	if err != nil {
		t.Fatalf("%s: %v", text, err)
	}
	q, err := bind.Bind(s, tree)
	if err != nil {
		t.Fatalf("%s: %v", text, err)
	}
	if q, err = expand.Expand(s, q, partsOf(cut)); err != nil {
		t.Fatalf("%s: %v", text, err)
	}
	if q, err = rewrite.Normal(q); err != nil {
		t.Fatalf("%s: %v", text, err)
	}
	holdMeaning(t, q, s, cut, kinds{})
	var hits []api.Hit
	p := compiled(t, q, s, partsOf(cut), on)
	for _, over := range cut {
		run, err := vm.Run(p, over.part, 1000)
		if err != nil {
			t.Fatalf("%s: %v", text, err)
		}
		hits = append(hits, run.Hits...)
	}
	slices.SortFunc(hits, func(a, b api.Hit) int { return cmp.Or(cmp.Compare(b.Score, a.Score), cmp.Compare(a.Id, b.Id)) })
	return hits
}

// P23.4: query texts, through all layers up to this one, over two documents in one part, and in two parts with dead ones beside them.
func TestQueryTexts(t *testing.T) {
	s := mustParse(t, "title:text,fold;tag:keyword")
	docs := []api.Doc{
		{Id: 0, Values: []api.Value{{Name: "title", Text: "Red fox"}, {Name: "tag", Text: "a"}}},
		{Id: 1, Values: []api.Value{{Name: "title", Text: "The red red dog"}}},
		{Id: 2, Values: []api.Value{{Name: "title", Text: "red fox dog cat"}, {Name: "tag", Text: "b"}}},
	}
	cuts := [][]made{
		{mustMake(t, s, docs[:2])},
		{mustMake(t, s, docs[:1]), mustMake(t, s, docs[1:2])},
		{mustMake(t, s, docs, 2)},
		{mustMake(t, s, nil), mustMake(t, s, docs[:1]), mustMake(t, s, docs[1:], 1)},
	}
	for text, want := range map[string][]api.Hit{
		`red`:            {{Id: 1, Score: 39195}, {Id: 0, Score: 36046}},
		`fox`:            {{Id: 0, Score: 137728}},
		`red | fox`:      {{Id: 0, Score: 137728}, {Id: 1, Score: 39195}},
		`red OR fox`:     {{Id: 0, Score: 173774}, {Id: 1, Score: 39195}},
		`red^3 -fox`:     {{Id: 1, Score: 117585}},
		`+red fox^=2`:    {{Id: 0, Score: 560334}, {Id: 1, Score: 39195}},
		`*:*`:            {{Id: 0, Score: 262144}, {Id: 1, Score: 262144}},
		`NOT fox`:        {{Id: 1, Score: 0}},
		`-fox`:           nil,
		`"red red"`:      {{Id: 1, Score: 54806}},
		`tag:[a TO b}`:   {{Id: 0, Score: 119040}},
		`tag:A`:          nil,
		`nosuch:x`:       nil,
		`r?d AND fo*`:    {{Id: 0, Score: 173774}},
		`rad~1`:          {{Id: 1, Score: 39195}, {Id: 0, Score: 36046}},
		`rad~2`:          {{Id: 1, Score: 78390}, {Id: 0, Score: 72092}},
		`(red OR fox)^0`: {{Id: 0}, {Id: 1}},
	} {
		for _, cut := range cuts {
			for _, on := range []bool{true, false} {
				if got := answer(t, text, s, cut, on); !slices.Equal(got, want) {
					t.Errorf("%s comes to %v in %d parts, not %v", text, got, len(cut), want)
				}
			}
		}
	}
	// With the second document dead, the first is alone.
	for _, cut := range [][]made{{mustMake(t, s, docs[:2], 1)}, {mustMake(t, s, docs[:1]), mustMake(t, s, docs[1:2], 0)}} {
		if got := answer(t, "red", s, cut, true); !slices.Equal(got, []api.Hit{{Id: 0, Score: 49755}}) {
			t.Errorf("red comes to %v", got)
		}
	}
}
