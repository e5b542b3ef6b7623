package engine_test

import (
	"fmt"
	"math"
	"math/rand"
	"slices"
	"strings"
	"testing"

	"concord/api"
	"concord/engine"
	"concord/lexer"
	"concord/schema"
)

// exampleSchema is that of the chapter's examples, and of those of DOC.md.
const exampleSchema = "title:text,fold;tag:keyword"

// wholeSchema has fields of all kinds, and a chain of all steps.
const wholeSchema = "title:text,fold,stop,stem;tag:keyword;price:number;body:text"

// longest is a term as long as one may be.
var longest = strings.Repeat("w", api.MaxTerm)

// mustParse is the schema of a text.
func mustParse(t testing.TB, text string) api.Schema {
	t.Helper()
	s, err := schema.Parse(text)
	if err != nil {
		t.Fatalf("Parse(%q): %v", text, err)
	}
	return s
}

// mustNew is an empty engine over the schema of a text.
func mustNew(t testing.TB, text string) *engine.Engine {
	t.Helper()
	e, err := engine.New(mustParse(t, text))
	if e == nil || err != nil {
		t.Fatalf("New over %s: %v, %v", text, e, err)
	}
	return e
}

// mustFrom is the engine of an index.
func mustFrom(t testing.TB, x api.Index) *engine.Engine {
	t.Helper()
	e, err := engine.From(x)
	if e == nil || err != nil {
		t.Fatalf("From: %v, %v", e, err)
	}
	return e
}

// mustAdd adds documents of one value each, of a field's name and these texts.
func mustAdd(t testing.TB, e *engine.Engine, name string, texts ...string) {
	t.Helper()
	for _, text := range texts {
		if _, err := e.Add(value(name, text)); err != nil {
			t.Fatalf("Add of %s %q: %v", name, text, err)
		}
	}
}

// mustDelete deletes documents.
func mustDelete(t testing.TB, e *engine.Engine, ids ...int) {
	t.Helper()
	for _, id := range ids {
		if err := e.Delete(id); err != nil {
			t.Fatalf("Delete(%d): %v", id, err)
		}
	}
}

// value is the values of a document that has one.
func value(name, text string) []api.Value { return []api.Value{{Name: name, Text: text}} }

// brief is the beginning of what a value looks like.
func brief(v any) string {
	text := fmt.Sprintf("%+v", v)
	return text[:min(len(text), 1500)]
}

// maker makes schemas, documents and query texts by rolls of dice: roll(n) is one of 0 .. n - 1.
type maker struct {
	roll func(n int) int
	room int
}

func newMaker(seed int64) *maker {
	return &maker{roll: rand.New(rand.NewSource(seed)).Intn}
}

// byteMaker rolls what the bytes say, and behind their end the most, for there the makers come to their ends.
func byteMaker(b []byte) *maker {
	return &maker{roll: func(n int) int {
		if len(b) == 0 {
			return n - 1
		}
		x := int(b[0])
		b = b[1:]
		return x % n
	}}
}

func (m *maker) coin() bool { return m.roll(2) == 0 }

func pickOf[T any](m *maker, list ...T) T {
	return list[m.roll(len(list))]
}

// schema is a good schema.
func (m *maker) schema(t testing.TB) api.Schema {
	wide := "f0:text"
	for i := 1; i < api.MaxFields; i++ {
		wide += fmt.Sprintf(";f%d:keyword", i)
	}
	return mustParse(t, pickOf(m, exampleSchema, wholeSchema, wholeSchema, "t:text", "price:number;t:text;u:text", "tag:keyword", wide))
}

// word is a word of made documents; those behind stand in fewer of them.
func (m *maker) word() string {
	list := strings.Fields("red fox dog Red the cat cats running x1 À red7 foxes rod " + longest + " " + longest + "w")
	return list[m.roll(1+m.roll(len(list)))]
}

func (m *maker) text(kind int) string {
	switch kind {
	case api.KindKeyword:
		return pickOf(m, "a", "b", "Red", "red", "x y", "A*", "\x00\xff", longest)
	case api.KindNumber:
		return pickOf(m, "0", "-0", "7", "007", "-7", "12", "9223372036854775807", "-9223372036854775808")
	}
	var out string
	for range m.roll(1 + m.roll(12)) {
		out += m.word() + pickOf(m, " ", " ", ", ")
	}
	return out
}

// values are those of a good document.
func (m *maker) values(s api.Schema) []api.Value {
	var list []api.Value
	for range m.roll(5) {
		f := s.Fields[m.roll(1+m.roll(len(s.Fields)))]
		list = append(list, api.Value{Name: f.Name, Text: m.text(f.Kind)})
	}
	return list
}

// spoilt are values that mostly are no good document.
func (m *maker) spoilt(s api.Schema) []api.Value {
	f := s.Fields[m.roll(len(s.Fields))]
	list := m.values(s)
	bad := pickOf(m, api.Value{Name: "nosuch", Text: "red"}, api.Value{Name: f.Name, Text: strings.Repeat("w ", api.MaxText/2+1)}, api.Value{Name: f.Name}, api.Value{Name: f.Name, Text: "no number"}, api.Value{Name: f.Name, Text: longest + "w"})
	if m.roll(6) == 0 {
		return slices.Repeat(append(list, api.Value{Name: f.Name, Text: m.text(f.Kind)}), api.MaxValues+1)
	}
	return slices.Insert(list, m.roll(len(list)+1), bad)
}

// id is one that an engine with this next one may have, or not.
func (m *maker) id(next int) int {
	if m.roll(8) == 0 {
		return pickOf(m, -1, next, next+1, math.MinInt, math.MaxInt, api.MaxId, next-1)
	}
	return m.roll(next + 1)
}

// query is a query text: mostly one of the grammar, else one like it.
func (m *maker) query(s api.Schema) string {
	m.room = 1 + m.roll(1+m.roll(30))
	text := m.list(s)
	switch m.roll(24) {
	case 0:
		at := m.roll(len(text) + 1)
		return text[:at]
	case 1:
		at := m.roll(len(text) + 1)
		return text[:at] + pickOf(m, "(", ")", "^", " AND ", ":", "\"", "~3", "\\", "]") + text[at:]
	case 2:
		depth := api.MaxNest - 3 + m.roll(6)
		return strings.Repeat("(", depth) + text + strings.Repeat(")", depth) + pickOf(m, "", "", ")")
	case 3:
		return "((" + text + ")^999999999)^" + pickOf(m, "1", "9000000", "999999999", "999999999")
	case 4:
		return "(((" + text + ")^999999999)^999999999)^2000" + pickOf(m, "", "^0", "^=1")
	case 5:
		return strings.Repeat(text+" ", pickOf(m, 10, 50, 200, 400))
	}
	return text
}

func (m *maker) list(s api.Schema) string {
	var out []string
	for range 1 + m.roll(1+m.roll(4)) {
		switch m.roll(8) {
		case 0:
			out = append(out, "+"+m.unary(s))
		case 1:
			out = append(out, "-"+m.unary(s))
		default:
			out = append(out, m.or(s))
		}
	}
	return strings.Join(out, " ")
}

func (m *maker) or(s api.Schema) string {
	out := m.unary(s)
	for m.roll(4) == 0 {
		out += pickOf(m, " OR ", " AND ", " AND ", " | ", "|") + m.unary(s)
	}
	return out
}

func (m *maker) unary(s api.Schema) string {
	if m.roll(12) == 0 {
		return "NOT " + m.unary(s)
	}
	out := m.atom(s)
	for m.roll(8) == 0 {
		out += pickOf(m, "^", "^", "^=") + pickOf(m, "0", "1", "2", "3", "10", "999999999")
	}
	return out
}

func (m *maker) atom(s api.Schema) string {
	m.room--
	f := s.Fields[0]
	name := ""
	switch m.roll(10) {
	case 0:
		return "*:*"
	case 1, 2, 3, 4:
		f = s.Fields[m.roll(len(s.Fields))]
		name = f.Name + ":"
	}
	if m.roll(30) == 0 {
		name = "nosuch:"
	}
	if m.room > 0 && m.roll(3) == 0 {
		return name + "(" + m.list(s) + ")" + pickOf(m, "", "", "", "@0", "@1", "@2", "@3")
	}
	return name + m.leaf(f)
}

func (m *maker) leaf(f api.Field) string {
	word := m.word()
	switch m.roll(12) {
	case 0:
		return word + pickOf(m, "~", "~1", "~2")
	case 1:
		return word[:m.roll(min(len(word), 3)+1)] + "*"
	case 2:
		at := m.roll(len(word))
		return word[:at] + pickOf(m, "?", "*") + pickOf(m, "?", "", word[at+1:])
	case 3, 4:
		return lexer.Quote(word+" "+m.word()+pickOf(m, "", " "+m.word())) + pickOf(m, "", "", "~1", "~3", "~999999999")
	case 5:
		return lexer.Quote(m.text(f.Kind))
	case 6:
		return pickOf(m, "[", "{") + m.side(f) + " TO " + m.side(f) + pickOf(m, "]", "}")
	}
	if text := lexer.Word(m.text(f.Kind)); f.Kind != api.KindText && text != "" {
		return text
	}
	return word
}

// side is an end of a span.
func (m *maker) side(f api.Field) string {
	if m.roll(3) == 0 {
		return "*"
	}
	if f.Kind == api.KindText {
		return m.word()
	}
	return lexer.Quote(m.text(f.Kind))
}

// kinds counts what was met, by names.
type kinds map[string]int

// note counts a name, if it holds.
func (k kinds) note(name string, holds bool) {
	if holds {
		k[name]++
	}
}

// wantMany says that each of the names was met so often at least.
func (k kinds) wantMany(t testing.TB, least int, names ...string) {
	t.Helper()
	for _, name := range names {
		if k[name] < least {
			t.Errorf("only %d of the kind %q", k[name], name)
		}
	}
}
