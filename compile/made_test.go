package compile_test

import (
	"fmt"
	"math"
	"math/rand"
	"slices"
	"strings"
	"testing"

	"concord/api"
	"concord/bind"
	"concord/compile"
	"concord/docset"
	"concord/isa"
	"concord/schema"
	"concord/segment"
	"concord/verify"
)

// The queries, by their kinds.
var (
	none = api.Query{Kind: api.QNone}
	all  = api.Query{Kind: api.QAll}
)

// The terms of the examples.
var a, b, c, d = term(0, "a", 5), term(0, "b", 6), term(0, "c", 7), term(0, "d", 8)

func has(f int) api.Query { return api.Query{Kind: api.QHas, Field: f} }
func term(f int, text string, w uint64) api.Query {
	return api.Query{Kind: api.QTerm, Field: f, Text: text, Weight: w}
}

// phrase is a phrase of the words of a text, one position apart.
func phrase(f, n int, w uint64, words string) api.Query {
	q := api.Query{Kind: api.QPhrase, Field: f, N: n, Weight: w, Terms: strings.Fields(words)}
	for i := range q.Terms {
		q.Offs = append(q.Offs, i)
	}
	return q
}

// list is a list whose kids occur by signs, one a kid: blank, + or -.
func list(n int, signs string, kids ...api.Query) api.Query {
	q := api.Query{Kind: api.QList, N: n, Kids: kids}
	for _, sign := range signs {
		q.Occur = append(q.Occur, strings.IndexRune(" +-", sign))
	}
	return q
}

// shoulds is a list of shoulds alone, musts one of musts.
func shoulds(n int, kids ...api.Query) api.Query {
	return list(n, strings.Repeat(" ", len(kids)), kids...)
}
func musts(kids ...api.Query) api.Query { return list(0, strings.Repeat("+", len(kids)), kids...) }
func most(kids ...api.Query) api.Query  { return api.Query{Kind: api.QMax, Kids: kids} }
func not(kids ...api.Query) api.Query   { return api.Query{Kind: api.QNot, Kids: kids} }
func boost(w uint64, kids ...api.Query) api.Query {
	return api.Query{Kind: api.QBoost, Weight: w, Kids: kids}
}
func fixed(w uint64, kids ...api.Query) api.Query {
	return api.Query{Kind: api.QConst, Weight: w, Kids: kids}
}

// wraps are ways to put a query into a good one: every kind that has kids, with the query at every place that its code tells apart.
var wraps = []func(q api.Query) api.Query{
	func(q api.Query) api.Query { return not(q) },
	func(q api.Query) api.Query { return boost(3, q) },
	func(q api.Query) api.Query { return fixed(4, q) },
	func(q api.Query) api.Query { return most(q) },
	func(q api.Query) api.Query { return most(q, c) },
	func(q api.Query) api.Query { return most(c, q, none, q) },
	func(q api.Query) api.Query { return list(0, " ", q) },
	func(q api.Query) api.Query { return list(0, "   ", c, q, b) },
	func(q api.Query) api.Query { return list(2, "   ", c, q, q) },
	func(q api.Query) api.Query { return list(1, " +", q, c) },
	func(q api.Query) api.Query { return list(2, " + ", q, c, q) },
	func(q api.Query) api.Query { return list(0, "+", q) },
	func(q api.Query) api.Query { return list(0, "++", c, q) },
	func(q api.Query) api.Query { return list(0, "+ ", c, q) },
	func(q api.Query) api.Query { return list(0, "+-", c, q) },
	func(q api.Query) api.Query { return list(0, " -", q, q) },
	func(q api.Query) api.Query { return list(0, " +- +", q, q, c, c, q) },
	func(q api.Query) api.Query { return list(2, " ", q) },
	func(q api.Query) api.Query { return list(0, "-", q) },
}

// plainLeaves are a query of each kind without kids.
func plainLeaves() []api.Query {
	return []api.Query{none, all, has(1), term(1, "a", 9), phrase(0, 2, 10, "b a b"), phrase(1, 0, 11, "x")}
}

// every is a plan that all documents drive.
func every(q api.Query) api.Plan { return api.Plan{Root: q, All: true} }

// stats are statistics of so many fields without a token.
func stats(fields int) api.Stats { return api.Stats{Docs: 1, Sums: make([]int, fields)} }

// brief is the beginning of what a value looks like.
func brief(v any) string {
	switch x := v.(type) {
	case api.Query:
		if bind.Check(x, api.MaxFields, false) == nil {
			v = bind.Text(x)
		}
	case api.Plan:
		return fmt.Sprintf("%s, All %v, Drive %.300q", brief(x.Root), x.All, fmt.Sprint(x.Drive))
	case api.Prog:
		if text, err := isa.Text(x); err == nil {
			v = strings.ReplaceAll(text, "\n", "; ")
		}
	}
	text := fmt.Sprintf("%+v", v)
	return text[:min(len(text), 1500)]
}

func alikeProgs(a, b api.Prog) bool {
	return slices.Equal(a.Avgs, b.Avgs) && slices.Equal(a.Cursors, b.Cursors) && slices.EqualFunc(a.Nears, b.Nears, alikeNears) &&
		a.All == b.All && slices.Equal(a.Drive, b.Drive) && slices.Equal(a.Code, b.Code)
}

func alikeNears(a, b api.Near) bool {
	return slices.Equal(a.Cursors, b.Cursors) && slices.Equal(a.Offs, b.Offs) && a.Slop == b.Slop
}

// mustProgram is the program of a good plan; P22.2 is held over it.
func mustProgram(t testing.TB, pl api.Plan, st api.Stats) api.Prog {
	t.Helper()
	p, err := compile.Program(pl, st)
	if err != nil {
		t.Fatalf("Program(%s): %v", brief(pl), err)
	}
	proof, err := verify.Check(p)
	if err != nil {
		t.Fatalf("the program of %s isn't good: %s", brief(pl), brief(p))
	}
	if most := 3*bind.Size(pl.Root) + 1; proof.Length > most {
		t.Fatalf("the program of %s has %d instructions, more than %d: %s", brief(pl), proof.Length, most, brief(p))
	}
	return p
}

// holdPlan holds the program of a good plan against the model.
func holdPlan(t testing.TB, pl api.Plan, st api.Stats) api.Prog {
	t.Helper()
	p := mustProgram(t, pl, st)
	if want := modelProgram(pl, st); !alikeProgs(p, want) {
		t.Fatalf("the program of %s is\n%s, want\n%s", brief(pl), brief(p), brief(want))
	}
	return p
}

// codeText is the code of a program as in a listing, with `; ` between the instructions.
func codeText(t testing.TB, p api.Prog) string {
	t.Helper()
	text, err := isa.Text(api.Prog{Code: p.Code})
	if err != nil {
		t.Fatalf("no code: %x", p.Code)
	}
	return strings.TrimSuffix(strings.ReplaceAll(strings.TrimPrefix(text, "avgs\n"), "\n", "; "), "; ")
}

// wantCode says that the program of a query over two fields has this code.
func wantCode(t testing.TB, q api.Query, want string) {
	t.Helper()
	if got := codeText(t, holdPlan(t, every(q), stats(2))); got != want {
		t.Errorf("the code of %s is %s, want %s", brief(q), got, want)
	}
}

// wantRefused says that a plan is refused over so many fields.
func wantRefused(t testing.TB, name string, pl api.Plan, fields int) {
	t.Helper()
	if p, err := compile.Program(pl, stats(fields)); err != api.ErrNode || !alikeProgs(p, api.Prog{}) {
		t.Errorf("%s: Program(%s) is %s, %v", name, brief(pl), brief(p), err)
	}
}

// mustParse is the schema of a text.
func mustParse(t testing.TB, text string) api.Schema {
	t.Helper()
	s, err := schema.Parse(text)
	if err != nil {
		t.Fatalf("Parse(%q): %v", text, err)
	}
	return s
}

// made is a part, and what it was made of.
type made struct {
	part   *segment.Part
	sheets []sheet
}

// mustMake is the part of documents of which these are dead.
func mustMake(t testing.TB, s api.Schema, docs []api.Doc, dead ...int) made {
	t.Helper()
	image, err := segment.Build(s, docs)
	if err != nil {
		t.Fatalf("Build of %s: %v", brief(docs), err)
	}
	g, err := segment.Open(s, image)
	if err != nil {
		t.Fatalf("Open of the image of %s: %v", brief(docs), err)
	}
	set, err := docset.Of(g.Docs(), dead)
	if err != nil {
		t.Fatal(err)
	}
	p, err := segment.NewPart(g, set)
	if err != nil {
		t.Fatal(err)
	}
	m := made{part: p}
	for i, doc := range docs {
		m.sheets = append(m.sheets, sheetOf(s, doc, slices.Contains(dead, i)))
	}
	return m
}

// partsOf are the parts of a list.
func partsOf(cut []made) []*segment.Part {
	var parts []*segment.Part
	for _, m := range cut {
		parts = append(parts, m.part)
	}
	return parts
}

// inField are documents of one value each, of a field's name and these texts, with ids from this one on.
func inField(from int, name string, texts ...string) []api.Doc {
	var docs []api.Doc
	for i, text := range texts {
		docs = append(docs, api.Doc{Id: from + i, Values: []api.Value{{Name: name, Text: text}}})
	}
	return docs
}

// maker makes schemas, documents, parts, queries and plans out of dice.
type maker struct {
	*rand.Rand
	room int
}

func newMaker(seed int64) *maker {
	return &maker{Rand: rand.New(rand.NewSource(seed))}
}

// within is a maker with room for so many nodes at most.
func (m *maker) within(room int) *maker {
	m.room = 1 + m.Intn(room)
	return m
}

func pickOf[T any](m *maker, list ...T) T {
	return list[m.Intn(len(list))]
}

// schema is a good schema.
func (m *maker) schema(t testing.TB) api.Schema {
	wide := "f0:text" + strings.Repeat(";f%d:keyword", api.MaxFields-1)
	var numbers []any
	for i := range api.MaxFields - 1 {
		numbers = append(numbers, i+1)
	}
	return mustParse(t, pickOf(m, "t:text", "t:text", "t:text,fold;k:keyword", "k:keyword;t:text,stop;n:number", "n:number;t:text;u:text", fmt.Sprintf(wide, numbers...)))
}

// longest is a term as long as one may be.
var longest = strings.Repeat("w", api.MaxTerm)

// word is a word of made documents; those behind stand in fewer of them.
func (m *maker) word() string {
	return strings.Fields("a b c d e f g h " + longest)[m.Intn(1+m.Intn(9))]
}

func (m *maker) value(kind int) string {
	switch kind {
	case api.KindKeyword:
		return m.word()
	case api.KindNumber:
		return pickOf(m, "0", "1", "-1", "7")
	}
	var list []string
	for range m.Intn(1 << m.Intn(4)) {
		list = append(list, m.word())
	}
	return strings.Join(list, " ")
}

// docs are documents with ids above the last one's.
func (m *maker) docs(s api.Schema, n, last int) []api.Doc {
	docs := make([]api.Doc, n)
	for i := range docs {
		last += 1 + m.Intn(3)
		docs[i].Id = last
		for range m.Intn(2 + len(s.Fields)) {
			f := s.Fields[m.Intn(1+m.Intn(len(s.Fields)))]
			docs[i].Values = append(docs[i].Values, api.Value{Name: f.Name, Text: m.value(f.Kind)})
		}
	}
	return docs
}

// dead are none, some or all of n documents.
func (m *maker) dead(n int) []int {
	var list []int
	die := m.Intn(6)
	for i := range n {
		if m.Intn(5) < die-m.Intn(3) {
			list = append(list, i)
		}
	}
	return list
}

// cut is up to four parts of one schema, with rising ids.
func (m *maker) cut(t testing.TB) (api.Schema, []made) {
	t.Helper()
	s := m.schema(t)
	var out []made
	last := -1
	for range m.Intn(5) {
		docs := m.docs(s, m.Intn(1<<m.Intn(5)), last)
		if len(docs) > 0 {
			last = docs[len(docs)-1].Id
		}
		out = append(out, mustMake(t, s, docs, m.dead(len(docs))...))
	}
	return s, out
}

// text is the text of a leaf: a term's, or what is like one.
func (m *maker) text() string {
	switch m.Intn(12) {
	case 0:
		return pickOf(m, "", "nowhere", "\x00", "\x00a", "\xff", longest, longest[1:])
	case 1:
		return schema.NumberTerm(int64(m.Intn(3) - 1))
	}
	return m.word()
}

// field is one of so many.
func (m *maker) field(fields int) int {
	return m.Intn(1 + m.Intn(fields))
}

// weight is a weight from 0 up to the greatest.
func (m *maker) weight() uint64 {
	return pickOf[uint64](m, 0, 1, 2, 3, 1000, 1<<31, 1<<44, 1<<63, m.Uint64(), math.MaxUint64)
}

func (m *maker) leaf(fields int) api.Query {
	switch m.Intn(18) {
	case 0:
		return none
	case 1:
		return all
	case 2, 3:
		return has(m.field(fields))
	case 4, 5, 6:
		return m.phrase(fields)
	}
	return term(m.field(fields), m.text(), m.weight())
}

func (m *maker) phrase(fields int) api.Query {
	q := api.Query{Kind: api.QPhrase, Field: m.field(fields), N: pickOf(m, 0, 1, 5, 1000, api.MaxNumber), Weight: m.weight()}
	for range 1 + m.Intn(1+m.Intn(4)) {
		q.Terms = append(q.Terms, m.text())
		q.Offs = append(q.Offs, pickOf(m, 0, 1, 2, m.Intn(10), m.Intn(10), api.EndDoc-1))
	}
	return q
}

// query is a good, plain query over so many fields.
func (m *maker) query(fields int) api.Query {
	m.room--
	if m.room <= 0 || m.Intn(8) == 0 {
		return m.leafOrRoom(fields)
	}
	kids := []api.Query{m.query(fields)}
	switch m.Intn(15) {
	case 0:
		return not(kids...)
	case 1:
		return boost(m.weight(), kids...)
	case 2:
		return fixed(m.weight(), kids...)
	}
	signs := pickOf(m, " ", "+", "-")
	for range m.Intn(6) {
		kids = append(kids, m.query(fields))
		signs += pickOf(m, " ", " ", "+", "-")
	}
	if m.Intn(4) == 0 {
		return most(kids...)
	}
	return list(pickOf(m, 0, 0, 0, 1, 2, 3, len(kids), api.MaxNumber), signs, kids...)
}

// leafOrRoom is a leaf; the empty lists that it has may be lists with room.
func (m *maker) leafOrRoom(fields int) api.Query {
	q := m.leaf(fields)
	if m.Intn(10) == 0 {
		q.Terms, q.Offs = append(make([]string, 0, 5), q.Terms...), append(make([]int, 0, 5), q.Offs...)
		q.Kids, q.Occur = make([]api.Query, 0, 2), make([]int, 0, 3)
	}
	return q
}

// plan is a good plan over so many fields.
func (m *maker) plan(fields, room int) api.Plan {
	pl := api.Plan{Root: m.within(room).query(fields), All: m.Intn(3) == 0}
	for range m.Intn(8) {
		if !pl.All {
			pl.Drive = append(pl.Drive, api.Leaf{Field: m.field(fields), Term: m.text()})
		}
	}
	return pl
}

// stats are statistics of so many fields, likely or not.
func (m *maker) stats(fields int) api.Stats {
	st := api.Stats{Docs: pickOf(m, 1, 2, 3, 7, m.Intn(5000), math.MaxInt, 0, -1, math.MinInt), Sums: make([]int, fields)}
	for i := range st.Sums {
		st.Sums[i] = pickOf(m, 0, 1, m.Intn(20), m.Intn(1<<30), math.MaxInt, -1, -m.Intn(20), math.MinInt)
	}
	return st
}

// kinds counts what was met, by names.
type kinds map[string]int

// note counts a name, if it holds.
func (k kinds) note(name string, holds bool) {
	if holds {
		k[name]++
	}
}

// wantMany says that each of the names was met so often at least.
func (k kinds) wantMany(t testing.TB, least int, names ...string) {
	t.Helper()
	for _, name := range names {
		if k[name] < least {
			t.Errorf("only %d of the kind %q", k[name], name)
		}
	}
}
