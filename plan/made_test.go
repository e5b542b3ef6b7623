package plan_test

import (
	"fmt"
	"math"
	"math/rand"
	"slices"
	"strings"
	"testing"

	"concord/api"
	"concord/bind"
	"concord/docset"
	"concord/plan"
	"concord/schema"
	"concord/segment"
)

// The queries, by their kinds.
var (
	none = api.Query{Kind: api.QNone}
	all  = api.Query{Kind: api.QAll}
)

// The terms of the examples, without weights.
var a, b, c, x, z = term(0, "a", 0), term(0, "b", 0), term(0, "c", 0), term(0, "x", 0), term(0, "z", 0)

func has(f int) api.Query { return api.Query{Kind: api.QHas, Field: f} }
func term(f int, text string, w uint64) api.Query {
	return api.Query{Kind: api.QTerm, Field: f, Text: text, Weight: w}
}

// phrase is a phrase of the words of a text, one position apart.
func phrase(f, n int, w uint64, words string) api.Query {
	q := api.Query{Kind: api.QPhrase, Field: f, N: n, Weight: w, Terms: strings.Fields(words)}
	for i := range q.Terms {
		q.Offs = append(q.Offs, i)
	}
	return q
}

// list is a list whose kids occur by signs, one a kid: blank, + or -.
func list(n int, signs string, kids ...api.Query) api.Query {
	q := api.Query{Kind: api.QList, N: n, Kids: kids}
	for _, sign := range signs {
		q.Occur = append(q.Occur, strings.IndexRune(" +-", sign))
	}
	return q
}

// shoulds is a list of shoulds alone, musts one of musts.
func shoulds(n int, kids ...api.Query) api.Query {
	return list(n, strings.Repeat(" ", len(kids)), kids...)
}
func musts(kids ...api.Query) api.Query { return list(0, strings.Repeat("+", len(kids)), kids...) }
func most(kids ...api.Query) api.Query  { return api.Query{Kind: api.QMax, Kids: kids} }
func not(kids ...api.Query) api.Query   { return api.Query{Kind: api.QNot, Kids: kids} }
func boost(w uint64, kids ...api.Query) api.Query {
	return api.Query{Kind: api.QBoost, Weight: w, Kids: kids}
}
func fixed(w uint64, kids ...api.Query) api.Query {
	return api.Query{Kind: api.QConst, Weight: w, Kids: kids}
}

// leaves are terms of the field 0.
func leaves(words string) []api.Leaf {
	var out []api.Leaf
	for _, word := range strings.Fields(words) {
		out = append(out, api.Leaf{Term: word})
	}
	return out
}

// wraps are ways to put a query into a good one; each has one or several such places.
var wraps = []func(q api.Query) api.Query{
	func(q api.Query) api.Query { return q },
	func(q api.Query) api.Query { return not(q) },
	func(q api.Query) api.Query { return boost(3, q) },
	func(q api.Query) api.Query { return fixed(5, q) },
	func(q api.Query) api.Query { return most(q) },
	func(q api.Query) api.Query { return most(c, q, none, q) },
	func(q api.Query) api.Query { return list(0, " ", q) },
	func(q api.Query) api.Query { return list(0, "+", q) },
	func(q api.Query) api.Query { return list(0, "+-", c, q) },
	func(q api.Query) api.Query { return list(2, "  + ", c, q, has(0), b) },
	func(q api.Query) api.Query { return list(0, "+- +", q, c, q, has(0)) },
	func(q api.Query) api.Query { return boost(0, list(1, " -", not(fixed(0, q)), most(q))) },
}

// brief is the beginning of what a value looks like.
func brief(v any) string {
	switch x := v.(type) {
	case api.Query:
		if bind.Check(x, api.MaxFields, false) == nil {
			v = bind.Text(x)
		}
	case api.Plan:
		return fmt.Sprintf("%s, All %v, Drive %.300q", brief(x.Root), x.All, fmt.Sprint(x.Drive))
	}
	text := fmt.Sprintf("%+v", v)
	return text[:min(len(text), 1500)]
}

// mustParse is the schema of a text.
func mustParse(t testing.TB, text string) api.Schema {
	t.Helper()
	s, err := schema.Parse(text)
	if err != nil {
		t.Fatalf("Parse(%q): %v", text, err)
	}
	return s
}

// made is a part, and what it was made of.
type made struct {
	part   *segment.Part
	sheets []sheet
	dead   []int
}

// mustMake is the part of documents of which these are dead.
func mustMake(t testing.TB, s api.Schema, docs []api.Doc, dead ...int) made {
	t.Helper()
	image, err := segment.Build(s, docs)
	if err != nil {
		t.Fatalf("Build of %s: %v", brief(docs), err)
	}
	g, err := segment.Open(s, image)
	if err != nil {
		t.Fatalf("Open of the image of %s: %v", brief(docs), err)
	}
	m := made{part: mustPart(t, g, dead), dead: dead}
	for _, d := range docs {
		m.sheets = append(m.sheets, sheetOf(s, d))
	}
	return m
}

// mustKill is a part of the same segment with these dead.
func mustKill(t testing.TB, m made, dead ...int) made {
	t.Helper()
	return made{mustPart(t, m.part.Segment, dead), m.sheets, dead}
}

// mustPart is the part of a segment of which these are dead.
func mustPart(t testing.TB, g *segment.Segment, dead []int) *segment.Part {
	t.Helper()
	set, err := docset.Of(g.Docs(), dead)
	if err != nil {
		t.Fatal(err)
	}
	p, err := segment.NewPart(g, set)
	if err != nil {
		t.Fatal(err)
	}
	return p
}

// partsOf are the parts of a list.
func partsOf(list []made) []*segment.Part {
	var parts []*segment.Part
	for _, m := range list {
		parts = append(parts, m.part)
	}
	return parts
}

// run are the numbers from, from + 1, .., to - 1.
func run(from, to int) []int {
	var list []int
	for i := from; i < to; i++ {
		list = append(list, i)
	}
	return list
}

// inField are documents of one value each, of a field's name and these texts.
func inField(name string, texts ...string) []api.Doc {
	var docs []api.Doc
	for i, text := range texts {
		docs = append(docs, api.Doc{Id: i, Values: []api.Value{{Name: name, Text: text}}})
	}
	return docs
}

// examples are ten live documents and some dead ones, cut in several ways: a stands in 1 of all, b in 4, c in 7, x in 3, and z in none.
func examples(t testing.TB) [][]made {
	s, wide := mustParse(t, "t:text"), mustParse(t, "t:text;a:text;z:keyword")
	docs := inField("t", "a b c", "b c b", "c b", "b", "c", "c", "c", "c x", "x", "x", "", "y", "y y")
	other := inField("a", "a z", "c", "b b", "z")
	return [][]made{
		// Three of the thirteen are dead: the one with a, one with c, one with y.
		{mustMake(t, s, docs, 0, 5, 11)},
		{mustMake(t, s, docs[:1], 0), mustMake(t, s, docs[1:], 4, 10)},
		{mustMake(t, s, docs[8:], 3), mustMake(t, s, nil), mustMake(t, s, docs[3:8], 2), mustMake(t, s, docs[:3], 0)},
		// Parts that lack the terms, that have them in other fields, that lack the field: all their documents are dead.
		{mustMake(t, s, docs, 0, 5, 11), mustMake(t, wide, other, 0, 1, 2, 3), mustMake(t, mustParse(t, "k:number"), inField("k", "1", "2"), 0, 1)},
		// None is dead.
		{mustMake(t, s, docs[:7]), mustMake(t, s, docs[7:10])},
	}
}

// maker makes schemas, documents, parts and queries out of dice.
type maker struct {
	*rand.Rand
	room int
}

func newMaker(seed int64) *maker {
	return &maker{Rand: rand.New(rand.NewSource(seed))}
}

// within is a maker with room for so many nodes at most.
func (m *maker) within(room int) *maker {
	m.room = 1 + m.Intn(room)
	return m
}

func pickOf[T any](m *maker, list ...T) T {
	return list[m.Intn(len(list))]
}

// schema is a good schema of few fields.
func (m *maker) schema(t testing.TB) api.Schema {
	return mustParse(t, pickOf(m, "t:text", "t:text,fold;k:keyword", "k:keyword;t:text,stop;n:number", "n:number;t:text;u:text"))
}

// words are the words of made documents; those behind stand in fewer of them.
const words = "a b c d e f g h i j"

func (m *maker) word() string {
	return strings.Fields(words)[m.Intn(1+m.Intn(10))]
}

func (m *maker) value(kind int) string {
	switch kind {
	case api.KindKeyword:
		return m.word()
	case api.KindNumber:
		return pickOf(m, "0", "1", "-1", "7")
	}
	var list []string
	for range m.Intn(1 << m.Intn(4)) {
		list = append(list, m.word())
	}
	return strings.Join(list, " ")
}

// docs are documents whose ids rise.
func (m *maker) docs(s api.Schema, n int) []api.Doc {
	docs := make([]api.Doc, n)
	next := 0
	for i := range docs {
		next += 1 + m.Intn(3)
		docs[i].Id = next
		for range m.Intn(2 + len(s.Fields)) {
			f := s.Fields[m.Intn(len(s.Fields))]
			docs[i].Values = append(docs[i].Values, api.Value{Name: f.Name, Text: m.value(f.Kind)})
		}
	}
	return docs
}

// dead are none, some or all of n documents.
func (m *maker) dead(n int) []int {
	keep := m.Intn(6)
	return slices.DeleteFunc(run(0, n), func(int) bool { return m.Intn(5) < keep })
}

// parts are up to four parts, some of which may stand in the list again; now and then they have unlike schemas.
func (m *maker) parts(t testing.TB) []made {
	t.Helper()
	s := m.schema(t)
	var list []made
	for i := range m.Intn(5) {
		switch {
		case i > 0 && m.Intn(6) == 0:
			list = append(list, list[m.Intn(i)])
			continue
		case m.Intn(10) == 0:
			s = m.schema(t)
		}
		docs := m.docs(s, m.Intn(1<<m.Intn(5)))
		list = append(list, mustMake(t, s, docs, m.dead(len(docs))...))
	}
	return list
}

// text is the text of a leaf: a term's, or what is like one.
func (m *maker) text() string {
	switch m.Intn(12) {
	case 0:
		return pickOf(m, "", "nowhere", "\x00", "\x00a", strings.Repeat("w", 100))
	case 1:
		return schema.NumberTerm(int64(m.Intn(3) - 1))
	}
	return m.word()
}

func (m *maker) field() int {
	return pickOf(m, 0, 0, 0, 1, 1, 2, 3, api.MaxFields-1)
}

// weight is a weight from 0 up to the greatest.
func (m *maker) weight() uint64 {
	return pickOf[uint64](m, 0, 1, 2, 3, 1000, 1<<31, 1<<44, 1<<63, m.Uint64(), math.MaxUint64)
}

func (m *maker) leaf() api.Query {
	switch m.Intn(18) {
	case 0:
		return none
	case 1:
		return all
	case 2:
		return has(m.field())
	case 3, 4:
		return m.phrase()
	}
	return term(m.field(), m.text(), m.weight())
}

func (m *maker) phrase() api.Query {
	q := api.Query{Kind: api.QPhrase, Field: m.field(), N: pickOf(m, 0, 1, 5, 1000, api.MaxNumber), Weight: m.weight()}
	for range 1 + m.Intn(4) {
		q.Terms = append(q.Terms, m.text())
		q.Offs = append(q.Offs, pickOf(m, 0, 1, 2, m.Intn(10)))
	}
	return q
}

// query is a good, plain query.
func (m *maker) query() api.Query {
	m.room--
	if m.room <= 0 || m.Intn(8) == 0 {
		return m.leafOrEmpty()
	}
	kids := []api.Query{m.query()}
	switch m.Intn(15) {
	case 0:
		return not(kids...)
	case 1:
		return boost(m.weight(), kids...)
	case 2:
		return fixed(m.weight(), kids...)
	}
	signs := pickOf(m, " ", "+", "-")
	for range m.Intn(6) {
		kids = append(kids, m.query())
		signs += pickOf(m, " ", " ", "+", "-")
	}
	if m.Intn(4) == 0 {
		return most(kids...)
	}
	return list(pickOf(m, 0, 0, 0, 1, 2, 3, len(kids), api.MaxNumber), signs, kids...)
}

// leafOrEmpty is a leaf; the empty lists that it has may be lists with room.
func (m *maker) leafOrEmpty() api.Query {
	q := m.leaf()
	if m.Intn(10) == 0 {
		q.Terms, q.Offs = append(make([]string, 0, 5), q.Terms...), append(make([]int, 0, 5), q.Offs...)
		q.Kids, q.Occur = make([]api.Query, 0, 2), make([]int, 0, 3)
	}
	return q
}

// kinds counts what was met, by names.
type kinds map[string]int

// note counts a name, if it holds.
func (k kinds) note(name string, holds bool) {
	if holds {
		k[name]++
	}
}

// wantMany says that each of the names was met so often at least.
func (k kinds) wantMany(t testing.TB, least int, names ...string) {
	t.Helper()
	for _, name := range names {
		if k[name] < least {
			t.Errorf("only %d of the kind %q", k[name], name)
		}
	}
}

// mustCost is the cost of a query, held against the model.
func mustCost(t testing.TB, q api.Query, list []made) int {
	t.Helper()
	n, err := plan.Cost(q, partsOf(list))
	if want := shelfOf(list).cost(q); n != want || err != nil {
		t.Fatalf("Cost(%s) is %d, %v, want %d", brief(q), n, err, want)
	}
	return n
}

// mustPlan is the plan of a query, held against the model.
func mustPlan(t testing.TB, q api.Query, list []made) api.Plan {
	t.Helper()
	p, err := plan.Make(q, partsOf(list), true)
	if want := shelfOf(list).plan(q); err != nil || !alikePlans(p, want) {
		t.Fatalf("Make(%s) is %s, %v, want %s", brief(q), brief(p), err, brief(want))
	}
	return p
}

// holdQuery holds all calls over a good query against the model.
func holdQuery(t testing.TB, q api.Query, list []made) api.Plan {
	t.Helper()
	mustCost(t, q, list)
	off, err := plan.Make(q, partsOf(list), false)
	if err != nil || !alikePlans(off, api.Plan{Root: q, All: true}) {
		t.Fatalf("Make(%s) without on is %s, %v", brief(q), brief(off), err)
	}
	return mustPlan(t, q, list)
}

// wantRefused says that the calls take a query for one that isn't good, or isn't plain.
func wantRefused(t testing.TB, q api.Query, list []made) {
	t.Helper()
	parts := partsOf(list)
	if n, err := plan.Cost(q, parts); n != 0 || err != api.ErrNode {
		t.Errorf("Cost(%s) is %d, %v", brief(q), n, err)
	}
	for _, on := range []bool{true, false} {
		if p, err := plan.Make(q, parts, on); err != api.ErrNode || !alikePlans(p, api.Plan{}) {
			t.Errorf("Make(%s, %v) is %s, %v", brief(q), on, brief(p), err)
		}
	}
}

// badOnes are queries that aren't good over any number of fields.
func badOnes() []api.Query {
	with := func(q api.Query, set func(q *api.Query)) api.Query {
		set(&q)
		return q
	}
	return []api.Query{
		{}, {Kind: -1}, {Kind: api.QConst + 1}, {Kind: api.QConst + 1, Kids: []api.Query{a}}, {Kind: 256 + api.QTerm, Text: "a"}, {Kind: math.MaxInt}, {Kind: math.MinInt},
		with(all, func(q *api.Query) { q.Text = "x" }),
		with(all, func(q *api.Query) { q.Kids = []api.Query{a} }),
		with(none, func(q *api.Query) { q.Field = 1 }),
		with(has(0), func(q *api.Query) { q.Weight = 1 }),
		has(-1), has(api.MaxFields),
		with(a, func(q *api.Query) { q.Field = -1 }),
		with(a, func(q *api.Query) { q.Field = api.MaxFields }),
		with(a, func(q *api.Query) { q.N = 1 }),
		with(a, func(q *api.Query) { q.Terms = []string{"a"} }),
		with(a, func(q *api.Query) { q.Lo = api.Bound{Open: true} }),
		with(a, func(q *api.Query) { q.Kids = []api.Query{all} }),
		with(phrase(0, 0, 0, "a x"), func(q *api.Query) { q.Offs = q.Offs[:1] }),
		with(phrase(0, 0, 0, "a"), func(q *api.Query) { q.Offs = nil }),
		with(phrase(0, 0, 0, "a x"), func(q *api.Query) { q.Offs = []int{0, -1} }),
		with(phrase(0, 0, 0, "a"), func(q *api.Query) { q.Offs = []int{api.EndDoc} }),
		with(phrase(0, 0, 0, "a"), func(q *api.Query) { q.N = api.MaxNumber + 1 }),
		with(phrase(0, 0, 0, "a"), func(q *api.Query) { q.Text = "a" }),
		phrase(0, 0, 0, ""),
		list(0, ""), list(0, " ", a, a), list(0, "  ", a), list(-1, " ", a), list(api.MaxNumber+1, " ", a),
		with(list(0, " ", a), func(q *api.Query) { q.Occur = []int{3} }),
		with(list(0, " ", a), func(q *api.Query) { q.Occur = []int{-1} }),
		with(list(0, " ", a), func(q *api.Query) { q.Weight = 1 }),
		most(), with(most(a), func(q *api.Query) { q.Occur = []int{0} }), with(most(a), func(q *api.Query) { q.N = 1 }),
		not(), not(a, a), with(not(a), func(q *api.Query) { q.Weight = 1 }),
		boost(1), boost(1, a, a), boost(0), with(boost(1, a), func(q *api.Query) { q.N = 1 }),
		fixed(1), fixed(1, a, a), fixed(0), with(fixed(1, a), func(q *api.Query) { q.Text = "x" }),
	}
}

// manyTermOnes are good queries that aren't plain.
func manyTermOnes() []api.Query {
	return []api.Query{
		{Kind: api.QPrefix, Text: "a"}, {Kind: api.QWild, Text: "a*"}, {Kind: api.QFuzzy, Text: "a", N: 1},
		{Kind: api.QSpan, Lo: api.Bound{Open: true}, Hi: api.Bound{In: true, Text: "b"}},
	}
}
