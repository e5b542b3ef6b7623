package merge_test

import (
	"fmt"
	"math/rand"
	"slices"
	"strconv"
	"strings"
	"testing"

	"concord/api"
	"concord/docset"
	"concord/schema"
	"concord/segment"
)

// wholeSchema has every kind of field, and a text field with and without a chain.
const wholeSchema = "title:text,fold,stop,stem;tag:keyword;price:number;raw:text"

// otherSchema has other names, kinds and chains at the numbers of wholeSchema, and a field more.
const otherSchema = "tag:text;raw:text,fold;n:number;m:keyword;last:text,stem"

// brief is the beginning of what a value looks like: images and rows may be great.
func brief(v any) string {
	text := fmt.Sprintf("%+v", v)
	return text[:min(len(text), 300)]
}

// mustParse is the schema of a text.
func mustParse(t testing.TB, text string) api.Schema {
	t.Helper()
	s, err := schema.Parse(text)
	if err != nil {
		t.Fatalf("Parse(%q) answers %v", text, err)
	}
	return s
}

// doc is a document; its values are told as names and texts in turn.
func doc(id int, pairs ...string) api.Doc {
	d := api.Doc{Id: id}
	for i := 0; i < len(pairs); i += 2 {
		d.Values = append(d.Values, api.Value{Name: pairs[i], Text: pairs[i+1]})
	}
	return d
}

// plain are documents with one word each in the field raw and with these ids.
func plain(ids ...int) []api.Doc {
	var docs []api.Doc
	for _, id := range ids {
		docs = append(docs, doc(id, "raw", "w"+strconv.Itoa(id%3)))
	}
	return docs
}

// run are the numbers from, from + 1, .., to - 1.
func run(from, to int) []int {
	var list []int
	for i := from; i < to; i++ {
		list = append(list, i)
	}
	return list
}

// made is a part, and what it was made of.
type made struct {
	part *segment.Part
	s    api.Schema
	docs []api.Doc
	dead []int
}

// live are the documents that aren't dead.
func (m made) live() []api.Doc {
	var docs []api.Doc
	for local, d := range m.docs {
		if !slices.Contains(m.dead, local) {
			docs = append(docs, d)
		}
	}
	return docs
}

// with is a part of the same segment with other dead.
func (m made) with(t testing.TB, dead ...int) made {
	t.Helper()
	set, err := docset.Of(len(m.docs), dead)
	if err != nil {
		t.Fatal(err)
	}
	p, err := segment.NewPart(m.part.Segment, set)
	if err != nil {
		t.Fatal(err)
	}
	return made{part: p, s: m.s, docs: m.docs, dead: dead}
}

// mustMake is the part of documents of which these are dead.
func mustMake(t testing.TB, s api.Schema, docs []api.Doc, dead ...int) made {
	t.Helper()
	g := mustOpen(t, s, mustBuild(t, s, docs))
	return made{part: wholePart(t, g), s: s, docs: docs}.with(t, dead...)
}

// mustBuild is the image of documents that make a segment.
func mustBuild(t testing.TB, s api.Schema, docs []api.Doc) []byte {
	t.Helper()
	image, err := segment.Build(s, docs)
	if err != nil {
		t.Fatalf("Build of %s answers %v", brief(docs), err)
	}
	return image
}

// mustOpen is the segment of an image.
func mustOpen(t testing.TB, s api.Schema, image []byte) *segment.Segment {
	t.Helper()
	g, err := segment.Open(s, image)
	if err != nil {
		t.Fatalf("Open of an image of %d bytes answers %v", len(image), err)
	}
	return g
}

// wholePart is the part of a segment of which none is dead.
func wholePart(t testing.TB, g *segment.Segment) *segment.Part {
	t.Helper()
	p, err := segment.NewPart(g, nil)
	if err != nil {
		t.Fatal(err)
	}
	return p
}

// partsOf are the parts of a list.
func partsOf(list []made) []*segment.Part {
	var parts []*segment.Part
	for _, m := range list {
		parts = append(parts, m.part)
	}
	return parts
}

// docsOf are the live documents of a list.
func docsOf(list []made) []api.Doc {
	var docs []api.Doc
	for _, m := range list {
		docs = append(docs, m.live()...)
	}
	return docs
}

// oneOf is one of the texts.
func oneOf(dice *rand.Rand, texts ...string) string {
	return texts[dice.Intn(len(texts))]
}

// madeText is a text that a field of this kind takes.
func madeText(dice *rand.Rand, kind int) string {
	switch kind {
	case api.KindKeyword:
		return oneOf(dice, "a", "b", "red", "Red", "\x00", "\xff", "a\x00", strings.Repeat("k", api.MaxTerm))
	case api.KindNumber:
		return oneOf(dice, "0", "-0", "007", "-1", "9223372036854775807", "-9223372036854775808", strconv.Itoa(dice.Intn(9)))
	}
	words := make([]string, dice.Intn(1<<dice.Intn(5)))
	for i := range words {
		words[i] = oneOf(dice, "a", "b", "red", "Red", "reds", "the", "running", "3.14", "àÀ", "\xff", "...", strings.Repeat("w", api.MaxTerm+1))
	}
	return strings.Join(words, " ")
}

// madeDocs are n documents whose ids rise from next on.
func madeDocs(dice *rand.Rand, s api.Schema, next, n int) []api.Doc {
	docs := make([]api.Doc, n)
	for i := range docs {
		next += dice.Intn(1 << dice.Intn(9))
		docs[i].Id = next
		next++
		for range dice.Intn(1 << dice.Intn(4)) {
			f := s.Fields[dice.Intn(len(s.Fields))]
			docs[i].Values = append(docs[i].Values, api.Value{Name: f.Name, Text: madeText(dice, f.Kind)})
		}
	}
	return docs
}

// madeDead are none, some or all of n documents.
func madeDead(dice *rand.Rand, n int) []int {
	all := run(0, n)
	keep := dice.Intn(4)
	return slices.DeleteFunc(all, func(int) bool {
		return dice.Intn(3) < keep
	})
}

// madeParts are n parts over one schema, whose ids rise through all of them.
func madeParts(t testing.TB, dice *rand.Rand, s api.Schema, n int) []made {
	t.Helper()
	list := make([]made, n)
	next := 0
	for i := range list {
		docs := madeDocs(dice, s, next, dice.Intn(1<<dice.Intn(6)))
		if len(docs) > 0 {
			next = docs[len(docs)-1].Id + 1
		}
		list[i] = mustMake(t, s, docs, madeDead(dice, len(docs))...)
	}
	return list
}

// namedLists are lists of parts over wholeSchema that merge, by what they are.
func namedLists(t testing.TB) map[string][]made {
	t.Helper()
	s := mustParse(t, wholeSchema)
	empty := mustMake(t, s, nil)
	a := mustMake(t, s, []api.Doc{doc(0, "raw", "a b"), doc(1, "raw", "b")}, 0)
	b := mustMake(t, s, []api.Doc{doc(2, "raw", "b c")})
	c := mustMake(t, s, []api.Doc{doc(7, "title", "The red foxes", "tag", "b", "price", "-3"), doc(8), doc(900, "title", "b", "title", "b")})
	gone := mustMake(t, s, plain(5, 6), 0, 1)
	late := mustMake(t, s, plain(901, api.MaxId-1))
	big, bigger := mustMake(t, s, plain(run(1000, 1040)...)), mustMake(t, s, plain(run(1100, 1133)...))
	return map[string][]made{
		"none":                           nil,
		"one without documents":          {empty},
		"some without documents":         {empty, mustMake(t, s, nil), empty},
		"one, none dead":                 {b},
		"one, some dead":                 {a},
		"one, all dead":                  {gone},
		"one document without values":    {mustMake(t, s, []api.Doc{doc(3)})},
		"several, none dead":             {b, c, late},
		"several, some dead":             {a, b, c.with(t, 1), late.with(t, 0)},
		"several, all dead":              {a.with(t, 0, 1), gone, c.with(t, 0, 1, 2)},
		"all dead at the ends":           {gone, a, b, gone},
		"without documents in between":   {empty, a, empty, b, c, empty},
		"without documents, twice":       {empty, empty, b, empty},
		"all dead, three times":          {gone, b, gone, c, gone},
		"dead ids that don't rise":       {b, a.with(t, 0, 1), c.with(t, 0), c.with(t, 0, 1, 2), late},
		"dead id that comes live behind": {c.with(t, 0, 2), c.with(t, 0, 1)},
		"one segment, cut by its dead":   {big.with(t, run(10, 40)...), big.with(t, append(run(0, 10), run(20, 40)...)...), big.with(t, run(0, 20)...)},
		"more than a block of documents": {big, bigger},
		"every other of many":            {big.with(t, run(3, 37)...), bigger.with(t, 0, 2, 4, 6, 8, 15, 16, 17, 31, 32)},
		"the greatest id and the least":  {mustMake(t, s, plain(0)), mustMake(t, s, plain(api.MaxId-1))},
	}
}

// badSchemas are schemas that aren't good.
func badSchemas() []api.Schema {
	field := api.Field{Name: "raw", Kind: api.KindText}
	return []api.Schema{
		{},
		{Fields: []api.Field{}},
		{Fields: slices.Repeat([]api.Field{field}, 2)},
		{Fields: []api.Field{{Kind: api.KindText}}},
		{Fields: []api.Field{{Name: "raw"}}},
		{Fields: []api.Field{{Name: "raw", Kind: 4}}},
		{Fields: []api.Field{{Name: "Raw", Kind: api.KindText}}},
		{Fields: []api.Field{{Name: "raw", Kind: api.KindNumber, Stem: true}}},
		{Fields: []api.Field{{Name: strings.Repeat("a", api.MaxName+1), Kind: api.KindText}}},
	}
}
