package vm_test

import (
	"fmt"
	"math"
	"math/rand"
	"slices"
	"strings"
	"testing"

	"concord/api"
	"concord/docset"
	"concord/isa"
	"concord/schema"
	"concord/segment"
	"concord/tokens"
)

// inverse is the number that makes 1 of Sat(1, 1, 1), modulo 2^64: a weight of n times it makes the score n of it.
const inverse = 1150442103521670961

// read is the program of a listing, with `; ` in the place of the line feeds.
func read(t testing.TB, text string) api.Prog {
	t.Helper()
	p, line, err := isa.Read(strings.ReplaceAll(text, "; ", "\n") + "\n")
	if err != nil {
		t.Fatalf("%q is no listing: line %d", text, line)
	}
	return p
}

// encoded is the bytes of instructions that have some.
func encoded(list []api.Instr) []byte {
	b, err := isa.Encode(list)
	if err != nil {
		panic("instructions without bytes")
	}
	return b
}

// decoded is the instructions of a program whose code is theirs.
func decoded(p api.Prog) []api.Instr {
	list, err := isa.Decode(p.Code)
	if err != nil {
		panic("code without instructions")
	}
	return list
}

// brief is the beginning of what a program looks like.
func brief(p api.Prog) string {
	text := fmt.Sprintf("%+v", p)
	if listing, err := isa.Text(p); err == nil {
		text = strings.ReplaceAll(strings.TrimSuffix(listing, "\n"), "\n", "; ")
	}
	return text[:min(len(text), 1500)]
}

// sheet is a document by its tokens: the positions of each term, and the length of each field.
type sheet struct {
	id      int
	dead    bool
	places  map[api.Leaf][]int
	lengths [api.MaxFields]int
}

func sheetOf(s api.Schema, d api.Doc, dead bool) sheet {
	x := sheet{id: d.Id, dead: dead, places: map[api.Leaf][]int{}}
	for field := range s.Fields {
		for _, token := range tokens.Field(s, field, d.Values) {
			leaf := api.Leaf{Field: field, Term: token.Text}
			x.places[leaf] = append(x.places[leaf], token.Pos)
			x.lengths[field]++
		}
	}
	return x
}

// made is a part, and what it was made of.
type made struct {
	part   *segment.Part
	sheets []sheet
}

// live are the documents that are alive.
func (m made) live() []sheet {
	var out []sheet
	for _, x := range m.sheets {
		if !x.dead {
			out = append(out, x)
		}
	}
	return out
}

// mustParse is the schema of a text.
func mustParse(t testing.TB, text string) api.Schema {
	t.Helper()
	s, err := schema.Parse(text)
	if err != nil {
		t.Fatalf("Parse(%q): %v", text, err)
	}
	return s
}

// mustMake is the part of documents of which these are dead.
func mustMake(t testing.TB, s api.Schema, docs []api.Doc, dead ...int) made {
	t.Helper()
	image, err := segment.Build(s, docs)
	if err != nil {
		t.Fatalf("Build: %v", err)
	}
	g, err := segment.Open(s, image)
	if err != nil {
		t.Fatalf("Open: %v", err)
	}
	set, err := docset.Of(g.Docs(), dead)
	if err != nil {
		t.Fatal(err)
	}
	p, err := segment.NewPart(g, set)
	if err != nil {
		t.Fatal(err)
	}
	m := made{part: p}
	for i, doc := range docs {
		m.sheets = append(m.sheets, sheetOf(s, doc, slices.Contains(dead, i)))
	}
	return m
}

// inField are documents of one value each, of a field's name and these texts, with ids from this one on.
func inField(from int, name string, texts ...string) []api.Doc {
	var docs []api.Doc
	for i, text := range texts {
		docs = append(docs, api.Doc{Id: from + i, Values: []api.Value{{Name: name, Text: text}}})
	}
	return docs
}

// texts is a part of one text field without a chain, a document a text, with ids that are 100 and the local numbers. A text with a ! ahead of it is that of a dead document.
func texts(t testing.TB, list ...string) made {
	t.Helper()
	var dead []int
	var bare []string
	for i, text := range list {
		rest, isDead := strings.CutPrefix(text, "!")
		if isDead {
			dead = append(dead, i)
		}
		bare = append(bare, rest)
	}
	return mustMake(t, mustParse(t, "t:text"), inField(100, "t", bare...), dead...)
}

// maker makes schemas, documents, parts, programs and queries out of dice.
type maker struct {
	*rand.Rand
	room int
}

func newMaker(seed int64) *maker {
	return &maker{Rand: rand.New(rand.NewSource(seed))}
}

func pickOf[T any](m *maker, list ...T) T {
	return list[m.Intn(len(list))]
}

// schema is a good schema.
func (m *maker) schema(t testing.TB) api.Schema {
	wide := "f0:text" + strings.Repeat(";f%d:keyword", api.MaxFields-1)
	var numbers []any
	for i := range api.MaxFields - 1 {
		numbers = append(numbers, i+1)
	}
	return mustParse(t, pickOf(m, "t:text", "t:text", "t:text,fold;k:keyword", "k:keyword;t:text,stop;n:number", "n:number;t:text;u:text", fmt.Sprintf(wide, numbers...)))
}

// longest is a term as long as one may be.
var longest = strings.Repeat("w", api.MaxTerm)

// word is a word of made documents; those behind stand in fewer of them.
func (m *maker) word() string {
	return strings.Fields("a b c d e f g h " + longest)[m.Intn(1+m.Intn(9))]
}

func (m *maker) value(kind int) string {
	switch kind {
	case api.KindKeyword:
		return m.word()
	case api.KindNumber:
		return pickOf(m, "0", "1", "-1", "7")
	}
	var list []string
	for range m.Intn(1 << m.Intn(4)) {
		list = append(list, m.word())
	}
	return strings.Join(list, " ")
}

// docs are documents with ids above the last one's.
func (m *maker) docs(s api.Schema, n, last int) []api.Doc {
	docs := make([]api.Doc, n)
	for i := range docs {
		last += 1 + m.Intn(3)
		docs[i].Id = last
		for range m.Intn(2 + len(s.Fields)) {
			f := s.Fields[m.Intn(1+m.Intn(len(s.Fields)))]
			docs[i].Values = append(docs[i].Values, api.Value{Name: f.Name, Text: m.value(f.Kind)})
		}
	}
	return docs
}

// dead are none, some or all of n documents.
func (m *maker) dead(n int) []int {
	var list []int
	die := m.Intn(6)
	for i := range n {
		if m.Intn(5) < die-m.Intn(3) {
			list = append(list, i)
		}
	}
	return list
}

// cut is up to so many parts of one schema, with rising ids, one at least.
func (m *maker) cut(t testing.TB, most int) (api.Schema, []made) {
	t.Helper()
	s := m.schema(t)
	var out []made
	last := -1
	for range 1 + m.Intn(most) {
		docs := m.docs(s, m.Intn(1<<m.Intn(8)), last)
		if len(docs) > 0 {
			last = docs[len(docs)-1].Id
		}
		out = append(out, mustMake(t, s, docs, m.dead(len(docs))...))
	}
	return s, out
}

// text is the text of a leaf: a term's, or what is like one.
func (m *maker) text() string {
	switch m.Intn(12) {
	case 0:
		return pickOf(m, "", "nowhere", "\x00", "\x00a", "\xff", longest, longest[1:])
	case 1:
		return schema.NumberTerm(int64(m.Intn(3) - 1))
	}
	return m.word()
}

// field is one of so many.
func (m *maker) field(fields int) int {
	return m.Intn(1 + m.Intn(fields))
}

// weight is a weight or a factor from 0 up to the greatest.
func (m *maker) weight() uint64 {
	return pickOf[uint64](m, 0, 1, 2, 3, 1000, 1<<31, 1<<44, 1<<63, m.Uint64(), math.MaxUint64)
}

// kinds counts what was met, by names.
type kinds map[string]int

// note counts a name, if it holds.
func (k kinds) note(name string, holds bool) {
	if holds {
		k[name]++
	}
}

// wantMany says that each of the names was met so often at least.
func (k kinds) wantMany(t testing.TB, least int, names ...string) {
	t.Helper()
	for _, name := range names {
		if k[name] < least {
			t.Errorf("only %d of the kind %q", k[name], name)
		}
	}
}
