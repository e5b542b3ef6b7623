package bind_test

import (
	"fmt"
	"math"
	"math/rand"
	"slices"
	"strings"
	"testing"

	"concord/api"
	"concord/bind"
	"concord/schema"
	"concord/syntax"
)

// The queries, by their kinds.
var (
	none = api.Query{Kind: api.QNone}
	all  = api.Query{Kind: api.QAll}
)

func has(f int) api.Query { return api.Query{Kind: api.QHas, Field: f} }
func term(f int, text string, w uint64) api.Query {
	return api.Query{Kind: api.QTerm, Field: f, Text: text, Weight: w}
}
func phrase(f, n int, w uint64, terms []string, offs ...int) api.Query {
	return api.Query{Kind: api.QPhrase, Field: f, N: n, Weight: w, Terms: terms, Offs: offs}
}
func prefix(f int, text string) api.Query {
	return api.Query{Kind: api.QPrefix, Field: f, Text: text}
}
func wild(f int, text string) api.Query { return api.Query{Kind: api.QWild, Field: f, Text: text} }
func fuzzy(f, n int, text string) api.Query {
	return api.Query{Kind: api.QFuzzy, Field: f, N: n, Text: text}
}
func span(f int, lo, hi api.Bound) api.Query {
	return api.Query{Kind: api.QSpan, Field: f, Lo: lo, Hi: hi}
}
func list(n int, signs string, kids ...api.Query) api.Query {
	return api.Query{Kind: api.QList, N: n, Occur: occurs(signs), Kids: kids}
}
func most(kids ...api.Query) api.Query { return api.Query{Kind: api.QMax, Kids: kids} }
func not(kids ...api.Query) api.Query  { return api.Query{Kind: api.QNot, Kids: kids} }
func boost(w uint64, kids ...api.Query) api.Query {
	return api.Query{Kind: api.QBoost, Weight: w, Kids: kids}
}
func fixed(w uint64, kids ...api.Query) api.Query {
	return api.Query{Kind: api.QConst, Weight: w, Kids: kids}
}

// The ends of spans.
func within(text string) api.Bound  { return api.Bound{In: true, Text: text} }
func without(text string) api.Bound { return api.Bound{Text: text} }
func open() api.Bound               { return api.Bound{Open: true} }

// occurs are how the kids of a list occur, one sign a kid: blank, + or -.
func occurs(signs string) []int {
	var out []int
	for _, sign := range signs {
		out = append(out, strings.IndexRune(" +-", sign))
	}
	return out
}

// node is a node over others; those of lists have signs.
func node(kind, n int, signs string, kids ...api.Node) api.Node {
	return api.Node{Kind: kind, N: n, Occur: occurs(signs), Kids: kids}
}

// goodOnes has a good query of each kind, by its number; the kind 0 has none.
func goodOnes() []api.Query {
	return []api.Query{
		{}, none, all, has(3), term(1, "a", 7), phrase(2, 3, 9, []string{"a", "b"}, 0, 1), prefix(1, "a"), wild(1, "a?"), fuzzy(1, 1, "a"), span(1, within("a"), without("b")),
		list(2, " +-", all, none, has(1)), most(all, none), not(all), boost(2, all), fixed(3, all),
	}
}

// wholeText is a schema of every kind of field and of every chain, by their numbers.
const wholeText = "t0:text;t1:text,fold;t2:text,stop;t3:text,stem;t4:text,fold,stop;t5:text,fold,stem;t6:text,stop,stem;t7:text,fold,stop,stem;k:keyword;n:number"

// mustParse is the schema of a text.
func mustParse(t testing.TB, text string) api.Schema {
	t.Helper()
	s, err := schema.Parse(text)
	if err != nil {
		t.Fatalf("Parse(%q): %v", text, err)
	}
	return s
}

// treeOf is the tree of a query text.
func treeOf(t testing.TB, q string) api.Node {
	t.Helper()
	n, _, err := syntax.Parse(q)
	if err != nil {
		t.Fatalf("Parse(%q): %v", q, err)
	}
	return n
}

// mustBind is the query of a tree, which is held against the model.
func mustBind(t testing.TB, s api.Schema, n api.Node) api.Query {
	t.Helper()
	q, err := bind.Bind(s, n)
	if err != nil {
		t.Fatalf("Bind(%v): %v", brief(n), err)
	}
	if want := modelBind(s, n); !alike(q, want) {
		t.Fatalf("Bind(%v) is %v, want %v", brief(n), brief(q), brief(want))
	}
	return q
}

// brief is the beginning of what a value looks like.
func brief(v any) string {
	text := fmt.Sprintf("%+v", v)
	return text[:min(len(text), 2000)]
}

// maker makes schemas, trees and queries out of dice.
type maker struct {
	*rand.Rand
	room int
}

func newMaker(seed int64) *maker {
	return &maker{Rand: rand.New(rand.NewSource(seed))}
}

// within is a maker with room for so many nodes at most.
func (m *maker) within(room int) *maker {
	m.room = 1 + m.Intn(room)
	return m
}

func (m *maker) pick(texts ...string) string {
	return texts[m.Intn(len(texts))]
}

func (m *maker) coin() bool {
	return m.Intn(2) == 0
}

// schema is a good schema of up to MaxFields fields.
func (m *maker) schema() api.Schema {
	var s api.Schema
	for i := range 1 + m.Intn(1+m.Intn(api.MaxFields)) {
		f := api.Field{Name: fmt.Sprintf("f%d", i), Kind: 1 + m.Intn(3)}
		if m.coin() {
			f.Kind = api.KindText
		}
		if f.Kind == api.KindText {
			f.Fold, f.Stop, f.Stem = m.coin(), m.coin(), m.coin()
		}
		s.Fields = append(s.Fields, f)
	}
	return s
}

// words are words, and what is like one, as documents and queries have them.
var words = []string{"cat", "Cats", "cats", "dog", "Dogs", "the", "The", "of", "running", "run", "red", "Red", "RED", "é", "É", "ÀB", "àb", "it's", "3.14", "7", "-7", "007", "-007", "42", "-0", "x", "\xc3", "\x80", "\x00\xff"}

// text is a text of words, or of anything, of one byte at least.
func (m *maker) text() string {
	switch m.Intn(12) {
	case 0:
		out := make([]byte, 1+m.Intn(4))
		m.Read(out)
		return string(out)
	case 1:
		return m.pick("*", "?", `\`, ".", " ", `"`, "+7", "7 ", "9223372036854775807", "-9223372036854775808", "9223372036854775808", strings.Repeat("x", api.MaxTerm), strings.Repeat("X", api.MaxTerm+1), strings.Repeat("7", api.MaxTerm+1), "a' b'", "...")
	case 2, 3:
		out := m.pick(words...)
		for range 1 + m.Intn(4) {
			out += m.pick(" ", ", ", "'", ".", "  ") + m.pick(words...)
		}
		return out
	}
	return m.pick(words...)
}

// number is a number that may stand in a query text.
func (m *maker) number() int {
	return []int{0, 1, 2, 3, 10, m.Intn(api.MaxNumber), api.MaxNumber}[m.Intn(7)]
}

func (m *maker) end() api.Bound {
	switch m.Intn(5) {
	case 0:
		return open()
	case 1:
		return api.Bound{In: m.coin()}
	}
	return api.Bound{In: m.coin(), Text: m.text()}
}

// pattern is a pattern that an NWild may have.
func (m *maker) pattern() string {
	out := m.pick("?", "*?", "**", "*a", "?B")
	for range m.Intn(5) {
		out = m.pick(out+"?", out+"*", "*"+out, out+modelLetters(m.text()), modelLetters(m.text())+out)
	}
	return out
}

// tree is a good tree over the fields of a schema, and over one that it doesn't have.
func (m *maker) tree(s api.Schema) api.Node {
	m.room--
	if m.room <= 0 || m.Intn(4) == 0 {
		return m.leaf(s)
	}
	kids := []api.Node{m.tree(s)}
	kind := api.NList + m.Intn(api.NConst-api.NList+1)
	if kind >= api.NNot {
		return node(kind, []int{0, m.number()}[min(kind-api.NNot, 1)], "", kids...)
	}
	for range m.Intn(3) {
		kids = append(kids, m.tree(s))
	}
	if kind != api.NList {
		return node(kind, 0, "", kids...)
	}
	signs := ""
	for range kids {
		signs += m.pick(" ", " ", "+", "-")
	}
	return node(kind, []int{0, 0, 1, 2, m.number()}[m.Intn(5)], signs, kids...)
}

func (m *maker) leaf(s api.Schema) api.Node {
	leaf := m.bareLeaf()
	if leaf.Kind != api.NAll {
		leaf.Field = m.pick("", "nosuch", s.Fields[m.Intn(len(s.Fields))].Name, s.Fields[m.Intn(len(s.Fields))].Name, s.Fields[m.Intn(len(s.Fields))].Name)
	}
	return leaf
}

func (m *maker) bareLeaf() api.Node {
	switch m.Intn(11) {
	case 0:
		return api.Node{Kind: api.NPrefix, Text: m.text()}
	case 1:
		return api.Node{Kind: api.NWild, Text: m.pattern()}
	case 2:
		return api.Node{Kind: api.NFuzzy, Text: m.text(), N: 1 + m.Intn(2)}
	case 3:
		return api.Node{Kind: api.NSpan, Lo: m.end(), Hi: m.end()}
	case 4:
		return api.Node{Kind: api.NHas}
	case 5:
		return api.Node{Kind: api.NAll}
	case 6, 7:
		return api.Node{Kind: api.NPhrase, Text: m.pick("", m.text(), m.text()), N: []int{0, m.number()}[m.Intn(2)]}
	}
	return api.Node{Kind: api.NTerm, Text: m.text()}
}

// query is a good query over so many fields, one at least.
func (m *maker) query(fields int) api.Query {
	m.room--
	if m.room <= 0 || m.Intn(4) == 0 {
		return m.leafQuery(m.Intn(fields))
	}
	kids := []api.Query{m.query(fields)}
	switch m.Intn(7) {
	case 0:
		return not(kids...)
	case 1:
		return boost(m.weight(), kids...)
	case 2:
		return fixed(m.weight(), kids...)
	}
	for range m.Intn(3) {
		kids = append(kids, m.query(fields))
	}
	if m.Intn(3) == 0 {
		return most(kids...)
	}
	signs := ""
	for range kids {
		signs += m.pick(" ", "+", "-")
	}
	return list(m.number(), signs, kids...)
}

func (m *maker) leafQuery(field int) api.Query {
	text := m.pick("", m.text(), m.text())
	switch m.Intn(9) {
	case 0:
		return none
	case 1:
		return all
	case 2:
		return has(field)
	case 3:
		return prefix(field, text)
	case 4:
		return wild(field, m.pick(m.pattern(), modelLetters(text), `\a`+m.pattern()))
	case 5:
		return fuzzy(field, m.Intn(3), text)
	case 6:
		return span(field, m.end(), m.end())
	case 7:
		q := phrase(field, m.number(), m.weight(), nil)
		for range 1 + m.Intn(3) {
			q.Terms = append(q.Terms, m.pick("", m.text()))
			q.Offs = append(q.Offs, []int{0, 1, m.Intn(100), math.MaxInt32 - 1}[m.Intn(4)])
		}
		return q
	}
	return term(field, text, m.weight())
}

func (m *maker) weight() uint64 {
	return []uint64{0, 1, 2, 10, m.Uint64(), math.MaxUint64}[m.Intn(6)]
}

// change changes one thing of a query or of one within it, to what may be good or not.
func (m *maker) change(q api.Query) api.Query {
	q = copied(q)
	at := &q
	for len(at.Kids) > 0 && m.Intn(3) > 0 {
		at = &at.Kids[m.Intn(len(at.Kids))]
	}
	changes[m.Intn(len(changes))].set(at)
	return q
}

// copied is a query in memory of its own.
func copied(q api.Query) api.Query {
	q.Text, q.Lo.Text, q.Hi.Text = strings.Clone(q.Text), strings.Clone(q.Lo.Text), strings.Clone(q.Hi.Text)
	q.Terms, q.Offs, q.Occur, q.Kids = slices.Clone(q.Terms), slices.Clone(q.Offs), slices.Clone(q.Occur), slices.Clone(q.Kids)
	for i, text := range q.Terms {
		q.Terms[i] = strings.Clone(text)
	}
	for i, kid := range q.Kids {
		q.Kids[i] = copied(kid)
	}
	return q
}

// change sets one field of a query to what it wasn't; part names the field, by the letters of hasFields.
type change struct {
	part rune
	set  func(q *api.Query)
}

// changes are the ways in which a query may differ in one thing.
var changes = []change{
	{'K', func(q *api.Query) { q.Kind++ }},
	{'K', func(q *api.Query) { q.Kind-- }},
	{'F', func(q *api.Query) { q.Field++ }},
	{'F', func(q *api.Query) { q.Field = -1 - q.Field }},
	{'F', func(q *api.Query) { q.Field += 1 << 32 }},
	{'T', func(q *api.Query) { q.Text += "x" }},
	{'T', func(q *api.Query) { q.Text += "\x00" }},
	{'T', func(q *api.Query) { q.Text = " " + q.Text }},
	{'t', func(q *api.Query) { q.Terms = append(q.Terms, "x") }},
	{'t', func(q *api.Query) { q.Terms = append([]string{""}, q.Terms...) }},
	{'t', func(q *api.Query) { q.Offs = append(q.Offs, 0) }},
	{'t', func(q *api.Query) { q.Offs = append([]int{9}, q.Offs...) }},
	{'t', func(q *api.Query) { q.Terms, q.Offs = append(q.Terms, ""), append(q.Offs, 1) }},
	{'N', func(q *api.Query) { q.N++ }},
	{'N', func(q *api.Query) { q.N = -1 - q.N }},
	{'N', func(q *api.Query) { q.N += 1 << 32 }},
	{'W', func(q *api.Query) { q.Weight++ }},
	{'W', func(q *api.Query) { q.Weight ^= 1 << 63 }},
	{'E', func(q *api.Query) { q.Lo.Open = !q.Lo.Open }},
	{'E', func(q *api.Query) { q.Lo.In = !q.Lo.In }},
	{'E', func(q *api.Query) { q.Lo.Text += "x" }},
	{'E', func(q *api.Query) { q.Hi.Open = !q.Hi.Open }},
	{'E', func(q *api.Query) { q.Hi.In = !q.Hi.In }},
	{'E', func(q *api.Query) { q.Hi.Text += "x" }},
	{'O', func(q *api.Query) { q.Occur = append(q.Occur, 0) }},
	{'O', func(q *api.Query) { q.Occur = append([]int{7}, q.Occur...) }},
	{'k', func(q *api.Query) { q.Kids = append(q.Kids, all) }},
	{'k', func(q *api.Query) { q.Kids = append([]api.Query{{}}, q.Kids...) }},
	{'k', func(q *api.Query) { q.Kids, q.Occur = append(q.Kids, none), append(q.Occur, 1) }},
}
