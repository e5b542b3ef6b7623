package expand_test

import (
	"fmt"
	"math"
	"math/rand"
	"slices"
	"strings"
	"testing"

	"concord/api"
	"concord/bind"
	"concord/docset"
	"concord/schema"
	"concord/segment"
	"concord/syntax"
)

// The queries, by their kinds.
var (
	none = api.Query{Kind: api.QNone}
	all  = api.Query{Kind: api.QAll}
)

func has(f int) api.Query { return api.Query{Kind: api.QHas, Field: f} }
func term(f int, text string, w uint64) api.Query {
	return api.Query{Kind: api.QTerm, Field: f, Text: text, Weight: w}
}

// phrase is a phrase of the words of a text, one position apart.
func phrase(f, n int, w uint64, words string) api.Query {
	q := api.Query{Kind: api.QPhrase, Field: f, N: n, Weight: w, Terms: strings.Fields(words)}
	for i := range q.Terms {
		q.Offs = append(q.Offs, i)
	}
	return q
}
func prefix(f int, text string) api.Query {
	return api.Query{Kind: api.QPrefix, Field: f, Text: text}
}
func wild(f int, text string) api.Query { return api.Query{Kind: api.QWild, Field: f, Text: text} }
func fuzzy(f, n int, text string) api.Query {
	return api.Query{Kind: api.QFuzzy, Field: f, N: n, Text: text}
}
func span(f int, lo, hi api.Bound) api.Query {
	return api.Query{Kind: api.QSpan, Field: f, Lo: lo, Hi: hi}
}

// list is a list whose kids occur by signs, one a kid: blank, + or -.
func list(n int, signs string, kids ...api.Query) api.Query {
	q := api.Query{Kind: api.QList, N: n, Kids: kids}
	for _, sign := range signs {
		q.Occur = append(q.Occur, strings.IndexRune(" +-", sign))
	}
	return q
}
func most(kids ...api.Query) api.Query { return api.Query{Kind: api.QMax, Kids: kids} }
func not(kids ...api.Query) api.Query  { return api.Query{Kind: api.QNot, Kids: kids} }
func boost(w uint64, kids ...api.Query) api.Query {
	return api.Query{Kind: api.QBoost, Weight: w, Kids: kids}
}
func fixed(w uint64, kids ...api.Query) api.Query {
	return api.Query{Kind: api.QConst, Weight: w, Kids: kids}
}

// The ends of spans.
func within(text string) api.Bound  { return api.Bound{In: true, Text: text} }
func without(text string) api.Bound { return api.Bound{Text: text} }
func open() api.Bound               { return api.Bound{Open: true} }

// wraps are ways to put a query into a good one; each has one or several such places.
var wraps = []func(q api.Query) api.Query{
	func(q api.Query) api.Query { return not(q) },
	func(q api.Query) api.Query { return boost(3, q) },
	func(q api.Query) api.Query { return fixed(5, q) },
	func(q api.Query) api.Query { return most(q) },
	func(q api.Query) api.Query { return most(all, q, none, q) },
	func(q api.Query) api.Query { return list(0, " ", q) },
	func(q api.Query) api.Query { return list(2, "+-", all, q) },
	func(q api.Query) api.Query { return list(0, "+- +", q, all, q, has(0)) },
	func(q api.Query) api.Query { return boost(0, list(1, " -", not(fixed(0, q)), most(q))) },
}

// brief is the beginning of what a value looks like.
func brief(v any) string {
	if q, ok := v.(api.Query); ok && bind.Check(q, api.MaxFields, false) == nil {
		v = bind.Text(q)
	}
	text := fmt.Sprintf("%+v", v)
	return text[:min(len(text), 1500)]
}

// mustParse is the schema of a text.
func mustParse(t testing.TB, text string) api.Schema {
	t.Helper()
	s, err := schema.Parse(text)
	if err != nil {
		t.Fatalf("Parse(%q): %v", text, err)
	}
	return s
}

// boundText is the bound query of a query text.
func boundText(t testing.TB, s api.Schema, text string) api.Query {
	t.Helper()
	tree, _, err := syntax.Parse(text)
	if err != nil {
		t.Fatalf("Parse(%q): %v", text, err)
	}
	q, err := bind.Bind(s, tree)
	if err != nil {
		t.Fatalf("Bind(%q): %v", text, err)
	}
	return q
}

// made is a part, and what it was made of.
type made struct {
	part   *segment.Part
	schema api.Schema
	docs   []api.Doc
	dead   []int
}

// live are the documents that aren't dead.
func (m made) live() []api.Doc {
	var docs []api.Doc
	for local, d := range m.docs {
		if !slices.Contains(m.dead, local) {
			docs = append(docs, d)
		}
	}
	return docs
}

// mustMake is the part of documents of which these are dead.
func mustMake(t testing.TB, s api.Schema, docs []api.Doc, dead ...int) made {
	t.Helper()
	image, err := segment.Build(s, docs)
	if err != nil {
		t.Fatalf("Build of %s: %v", brief(docs), err)
	}
	g, err := segment.Open(s, image)
	if err != nil {
		t.Fatalf("Open of the image of %s: %v", brief(docs), err)
	}
	return made{part: mustPart(t, g, dead), schema: s, docs: docs, dead: dead}
}

// mustKill is a part of the same segment with these dead.
func mustKill(t testing.TB, m made, dead ...int) made {
	t.Helper()
	return made{part: mustPart(t, m.part.Segment, dead), schema: m.schema, docs: m.docs, dead: dead}
}

// mustPart is the part of a segment of which these are dead.
func mustPart(t testing.TB, g *segment.Segment, dead []int) *segment.Part {
	t.Helper()
	set, err := docset.Of(g.Docs(), dead)
	if err != nil {
		t.Fatal(err)
	}
	p, err := segment.NewPart(g, set)
	if err != nil {
		t.Fatal(err)
	}
	return p
}

// partsOf are the parts of a list.
func partsOf(list ...made) []*segment.Part {
	var parts []*segment.Part
	for _, m := range list {
		parts = append(parts, m.part)
	}
	return parts
}

// run are the numbers from, from + 1, .., to - 1.
func run(from, to int) []int {
	var list []int
	for i := from; i < to; i++ {
		list = append(list, i)
	}
	return list
}

// inField are documents of one value each, of a field's name and these texts.
func inField(name string, texts ...string) []api.Doc {
	var docs []api.Doc
	for i, text := range texts {
		docs = append(docs, api.Doc{Id: i, Values: []api.Value{{Name: name, Text: text}}})
	}
	return docs
}

// exampleParts are the documents of the chapter's examples, cut in some way: the dead one may stand anywhere.
func exampleParts(t testing.TB) (api.Schema, [][]made) {
	s := mustParse(t, "t:text")
	docs := inField("t", "ab abc", "ab x", "b", "abd")
	return s, [][]made{
		{mustMake(t, s, docs, 3)},
		{mustMake(t, s, docs[:1]), mustMake(t, s, docs[1:], 2)},
		{mustMake(t, s, docs[3:], 0), mustMake(t, s, docs[2:3]), mustMake(t, s, docs[:2])},
		{mustMake(t, s, nil), mustMake(t, s, docs[:1]), mustMake(t, s, docs, 0, 2, 3), mustMake(t, s, docs[2:], 1), mustMake(t, s, docs, 0, 1, 2, 3)},
	}
}

// manyWords are n unlike words that begin with head, as documents of some hundreds each.
func manyWords(head string, n int) []api.Doc {
	const room = 500
	var texts []string
	for i := 0; i < n; i += room {
		var text strings.Builder
		for k := i; k < min(i+room, n); k++ {
			fmt.Fprintf(&text, "%s%d ", head, k)
		}
		texts = append(texts, text.String())
	}
	return inField("t", texts...)
}

// maker makes schemas, documents, parts and queries out of dice.
type maker struct {
	*rand.Rand
	room int
}

func newMaker(seed int64) *maker {
	return &maker{Rand: rand.New(rand.NewSource(seed))}
}

// within is a maker with room for so many nodes at most.
func (m *maker) within(room int) *maker {
	m.room = 1 + m.Intn(room)
	return m
}

func (m *maker) pick(texts ...string) string {
	return texts[m.Intn(len(texts))]
}

func (m *maker) coin() bool {
	return m.Intn(2) == 0
}

// schema is a good schema of few fields, and sometimes of as many as there may be.
func (m *maker) schema() api.Schema {
	n := 1 + m.Intn(4)
	if m.Intn(10) == 0 {
		n = api.MaxFields
	}
	var s api.Schema
	for i := range n {
		f := api.Field{Name: fmt.Sprintf("f%d", i), Kind: 1 + m.Intn(3)}
		if m.coin() {
			f.Kind = api.KindText
		}
		if f.Kind == api.KindText {
			f.Fold, f.Stop, f.Stem = m.coin(), m.coin(), m.coin()
		}
		s.Fields = append(s.Fields, f)
	}
	return s
}

// word is a word of few letters, so that words are like one another; now and then one with capitals, at a term's greatest length, or a longer one.
func (m *maker) word() string {
	switch m.Intn(16) {
	case 0:
		return m.pick("the", "running", "runs", "A", "B", "AB", "\xff", "\xc3\x80", "it's", "3.14", "7")
	case 1:
		return strings.Repeat(m.pick("a", "b", "w"), api.MaxTerm+m.Intn(2))
	}
	out := ""
	for range 1 + m.Intn(4) {
		out += m.pick("a", "a", "b", "b", "c")
	}
	return out
}

// value is a text that a field of this kind takes.
func (m *maker) value(kind int) string {
	switch kind {
	case api.KindKeyword:
		return m.pick(m.word()[:1], "a b", "a", "ab", "\x00", "\xff", "a\x00", "*", `\`, "ba", "bb", strings.Repeat("k", api.MaxTerm))
	case api.KindNumber:
		return m.pick("0", "-0", "007", "-1", "9223372036854775807", "-9223372036854775808", "8", "-8")
	}
	var words []string
	for range m.Intn(1 << m.Intn(5)) {
		words = append(words, m.word())
	}
	return strings.Join(words, m.pick(" ", ", ", "  "))
}

// docs are documents whose ids rise.
func (m *maker) docs(s api.Schema, n int) []api.Doc {
	docs := make([]api.Doc, n)
	next := 0
	for i := range docs {
		next += 1 + m.Intn(3)
		docs[i].Id = next
		for range m.Intn(2 * len(s.Fields)) {
			f := s.Fields[m.Intn(len(s.Fields))]
			docs[i].Values = append(docs[i].Values, api.Value{Name: f.Name, Text: m.value(f.Kind)})
		}
	}
	return docs
}

// dead are none, some or all of n documents.
func (m *maker) dead(n int) []int {
	keep := m.Intn(5)
	return slices.DeleteFunc(run(0, n), func(int) bool {
		return m.Intn(4) < keep
	})
}

// parts are n parts over one schema, some of which may stand in the list again.
func (m *maker) parts(t testing.TB, s api.Schema, n int) []made {
	t.Helper()
	var list []made
	for i := range n {
		if i > 0 && m.Intn(6) == 0 {
			list = append(list, list[m.Intn(i)])
			continue
		}
		docs := m.docs(s, m.Intn(1<<m.Intn(5)))
		list = append(list, mustMake(t, s, docs, m.dead(len(docs))...))
	}
	return list
}

// text is the text of a leaf in a field of this kind: a term's, or what is like one.
func (m *maker) text(kind int) string {
	switch {
	case m.Intn(12) == 0:
		return m.pick("", "nowhere", "\x00", "\xff\xff", strings.Repeat("w", api.MaxTerm+1))
	case kind == api.KindNumber:
		v, _ := schema.ParseNumber(m.value(kind))
		return schema.NumberTerm(v)[:m.pick8()]
	case kind == api.KindKeyword:
		return m.value(kind)
	}
	return m.word()
}

// pick8 is 8 most often, and else a number below it.
func (m *maker) pick8() int {
	if m.Intn(3) > 0 {
		return 8
	}
	return m.Intn(9)
}

func (m *maker) end(kind int) api.Bound {
	if m.Intn(4) == 0 {
		return open()
	}
	return api.Bound{In: m.coin(), Text: m.text(kind)}
}

// pattern is a pattern that a QWild may have.
func (m *maker) pattern() string {
	out := m.pick("?", "*", "a", "", `\*`, `\a`, "??", "*?")
	for range m.Intn(4) {
		out = m.pick(out+"?", out+"*", "*"+out, out+m.pick("a", "b", "c"), m.pick("a", "b", `\?`)+out)
	}
	return out
}

// weight is a weight from 0 up to the greatest.
func (m *maker) weight() uint64 {
	return []uint64{0, 1, 2, 3, 1000, 1 << 31, 1 << 44, 1 << 53, 1<<63 - 1, 1 << 63, m.Uint64(), math.MaxUint64}[m.Intn(12)]
}

// small is a weight by which a score stays below Top.
func (m *maker) small() uint64 {
	return uint64(m.Intn(5))
}

// leaf is a leaf over a schema's fields; its weights are made by weight.
func (m *maker) leaf(s api.Schema, weight func() uint64) api.Query {
	field := m.Intn(len(s.Fields))
	kind := s.Fields[field].Kind
	switch m.Intn(13) {
	case 0:
		return m.phrase(field, kind, weight)
	case 1:
		return has(field)
	case 2:
		return all
	case 3:
		return none
	case 4, 5:
		text := m.text(kind)
		return prefix(field, text[:min(len(text), m.Intn(2))])
	case 6:
		return wild(field, m.pattern())
	case 7, 8:
		return fuzzy(field, m.Intn(3), m.text(kind))
	case 9:
		return span(field, m.end(kind), m.end(kind))
	case 10:
		return prefix(field, m.text(kind))
	}
	return term(field, m.text(kind), weight())
}

func (m *maker) phrase(field, kind int, weight func() uint64) api.Query {
	q := api.Query{Kind: api.QPhrase, Field: field, N: []int{0, 1, 5, api.MaxNumber}[m.Intn(4)], Weight: weight()}
	for range 1 + m.Intn(3) {
		q.Terms = append(q.Terms, m.text(kind))
		q.Offs = append(q.Offs, []int{0, 1, 2, m.Intn(10)}[m.Intn(4)])
	}
	return q
}

// query is a good query over a schema's fields; its weights are made by weight.
func (m *maker) query(s api.Schema, weight func() uint64) api.Query {
	m.room--
	if m.room <= 0 || m.Intn(4) == 0 {
		return m.leafOrEmpty(s, weight)
	}
	kids := []api.Query{m.query(s, weight)}
	switch m.Intn(7) {
	case 0:
		return not(kids...)
	case 1:
		return boost(weight(), kids...)
	case 2:
		return fixed(weight(), kids...)
	}
	signs := m.pick(" ", "+", "-")
	for range m.Intn(3) {
		kids = append(kids, m.query(s, weight))
		signs += m.pick(" ", " ", "+", "-")
	}
	if m.Intn(3) == 0 {
		return most(kids...)
	}
	return list([]int{0, 0, 1, 2, api.MaxNumber}[m.Intn(5)], signs, kids...)
}

// leafOrEmpty is a leaf; the empty lists that it has may be lists with room.
func (m *maker) leafOrEmpty(s api.Schema, weight func() uint64) api.Query {
	q := m.leaf(s, weight)
	if m.Intn(10) == 0 {
		q.Terms, q.Offs = append(make([]string, 0, 5), q.Terms...), append(make([]int, 0, 5), q.Offs...)
		q.Kids, q.Occur = make([]api.Query, 0, 2), make([]int, 0, 3)
	}
	return q
}

// leavesOf are the leaves of a query.
func leavesOf(q api.Query) []api.Query {
	if len(q.Kids) == 0 {
		return []api.Query{q}
	}
	var out []api.Query
	for _, kid := range q.Kids {
		out = append(out, leavesOf(kid)...)
	}
	return out
}

// badOnes are queries that aren't good over any number of fields; most of them have a prefix or a term in them, which could be counted.
func badOnes() []api.Query {
	ab := prefix(0, "ab")
	with := func(q api.Query, set func(q *api.Query)) api.Query {
		set(&q)
		return q
	}
	return []api.Query{
		{}, {Kind: -1}, {Kind: api.QConst + 1}, {Kind: api.QConst + 1, Kids: []api.Query{ab}}, {Kind: 256 + api.QTerm, Text: "ab"},
		with(all, func(q *api.Query) { q.Text = "x" }),
		with(none, func(q *api.Query) { q.Field = 1 }),
		with(has(0), func(q *api.Query) { q.Weight = 1 }),
		with(has(0), func(q *api.Query) { q.Field = -1 }),
		with(term(0, "ab", 0), func(q *api.Query) { q.Field = -1 }),
		with(term(0, "ab", 0), func(q *api.Query) { q.Field = api.MaxFields }),
		with(term(0, "ab", 0), func(q *api.Query) { q.N = 1 }),
		with(term(0, "ab", 0), func(q *api.Query) { q.Kids = []api.Query{ab} }),
		with(phrase(0, 0, 0, "ab x"), func(q *api.Query) { q.Offs = q.Offs[:1] }),
		with(phrase(0, 0, 0, "ab x"), func(q *api.Query) { q.Offs = []int{0, -1} }),
		with(phrase(0, 0, 0, "ab x"), func(q *api.Query) { q.Offs = []int{0, api.EndDoc} }),
		with(phrase(0, 0, 0, "ab x"), func(q *api.Query) { q.N = api.MaxNumber + 1 }),
		phrase(0, 0, 0, ""),
		with(ab, func(q *api.Query) { q.Field = -1 }),
		with(ab, func(q *api.Query) { q.Field = -256 }),
		with(ab, func(q *api.Query) { q.Field = api.MaxFields }),
		with(ab, func(q *api.Query) { q.Field = 256 }),
		with(ab, func(q *api.Query) { q.Weight = 1 }),
		with(ab, func(q *api.Query) { q.N = 1 }),
		with(ab, func(q *api.Query) { q.Lo = within("a") }),
		wild(0, `a\`), wild(-1, "a*"), with(wild(0, "a*"), func(q *api.Query) { q.N = 1 }),
		fuzzy(0, 3, "ab"), fuzzy(0, -1, "ab"), fuzzy(api.MaxFields, 1, "ab"),
		span(0, api.Bound{Open: true, In: true}, open()), span(0, open(), api.Bound{Open: true, Text: "x"}), span(-1, open(), open()),
		with(span(0, open(), open()), func(q *api.Query) { q.Text = "x" }),
		list(0, ""), list(0, " ", ab, ab), list(0, "  ", ab), list(-1, " ", ab), list(api.MaxNumber+1, " ", ab),
		with(list(0, " ", ab), func(q *api.Query) { q.Occur = []int{3} }),
		with(list(0, " ", ab), func(q *api.Query) { q.Weight = 1 }),
		most(), with(most(ab), func(q *api.Query) { q.Occur = []int{0} }), with(most(ab), func(q *api.Query) { q.N = 1 }),
		not(), not(ab, ab), with(not(ab), func(q *api.Query) { q.Weight = 1 }),
		boost(1), boost(1, ab, ab), with(boost(1, ab), func(q *api.Query) { q.N = 1 }),
		fixed(1), fixed(1, ab, ab), with(fixed(1, ab), func(q *api.Query) { q.Text = "x" }),
	}
}
