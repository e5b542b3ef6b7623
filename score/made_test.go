package score_test

import (
	"fmt"
	"math/rand"
	"slices"
	"strconv"
	"strings"
	"testing"

	"concord/api"
	"concord/docset"
	"concord/schema"
	"concord/segment"
)

// wholeSchema has every kind of field, and a text field with and without a chain.
const wholeSchema = "title:text,fold,stop,stem;tag:keyword;price:number;raw:text"

// brief is the beginning of what a value looks like: documents may be many.
func brief(v any) string {
	text := fmt.Sprintf("%+v", v)
	return text[:min(len(text), 300)]
}

// mustParse is the schema of a text.
func mustParse(t testing.TB, text string) api.Schema {
	t.Helper()
	s, err := schema.Parse(text)
	if err != nil {
		t.Fatalf("Parse(%q) answers %v", text, err)
	}
	return s
}

// doc is a document; its values are told as names and texts in turn.
func doc(id int, pairs ...string) api.Doc {
	d := api.Doc{Id: id}
	for i := 0; i < len(pairs); i += 2 {
		d.Values = append(d.Values, api.Value{Name: pairs[i], Text: pairs[i+1]})
	}
	return d
}

// made is a part, and what it was made of.
type made struct {
	part *segment.Part
	docs []api.Doc
	dead []int
}

// live are the documents that aren't dead.
func (m made) live() []api.Doc {
	var docs []api.Doc
	for local, d := range m.docs {
		if !slices.Contains(m.dead, local) {
			docs = append(docs, d)
		}
	}
	return docs
}

// mustMake is the part of documents of which these are dead.
func mustMake(t testing.TB, s api.Schema, docs []api.Doc, dead ...int) made {
	t.Helper()
	image, err := segment.Build(s, docs)
	if err != nil {
		t.Fatalf("Build of %s answers %v", brief(docs), err)
	}
	g, err := segment.Open(s, image)
	if err != nil {
		t.Fatalf("Open of the image of %s answers %v", brief(docs), err)
	}
	return made{part: mustPart(t, g, dead), docs: docs, dead: dead}
}

// mustKill is a part of the same segment with these dead.
func mustKill(t testing.TB, m made, dead ...int) made {
	t.Helper()
	return made{part: mustPart(t, m.part.Segment, dead), docs: m.docs, dead: dead}
}

// mustPart is the part of a segment of which these are dead.
func mustPart(t testing.TB, g *segment.Segment, dead []int) *segment.Part {
	t.Helper()
	set, err := docset.Of(g.Docs(), dead)
	if err != nil {
		t.Fatal(err)
	}
	p, err := segment.NewPart(g, set)
	if err != nil {
		t.Fatal(err)
	}
	return p
}

// partsOf are the parts of a list.
func partsOf(list []made) []*segment.Part {
	var parts []*segment.Part
	for _, m := range list {
		parts = append(parts, m.part)
	}
	return parts
}

// docsOf are the live documents of a list.
func docsOf(list []made) []api.Doc {
	var docs []api.Doc
	for _, m := range list {
		docs = append(docs, m.live()...)
	}
	return docs
}

// run are the numbers from, from + 1, .., to - 1.
func run(from, to int) []int {
	var list []int
	for i := from; i < to; i++ {
		list = append(list, i)
	}
	return list
}

// oneOf is one of the texts.
func oneOf(dice *rand.Rand, texts ...string) string {
	return texts[dice.Intn(len(texts))]
}

// madeText is a text that a field of this kind takes.
func madeText(dice *rand.Rand, kind int) string {
	switch kind {
	case api.KindKeyword:
		return oneOf(dice, "a", "b", "red", "Red", "\x00", "\xff", "a\x00", strings.Repeat("k", api.MaxTerm))
	case api.KindNumber:
		return oneOf(dice, "0", "-0", "007", "-1", "9223372036854775807", "-9223372036854775808", strconv.Itoa(dice.Intn(9)))
	}
	list := make([]string, dice.Intn(1<<dice.Intn(5)))
	for i := range list {
		list[i] = oneOf(dice, "a", "b", "red", "Red", "reds", "the", "running", "3.14", "àÀ", "\xff", "...", strings.Repeat("w", api.MaxTerm), strings.Repeat("w", api.MaxTerm+1))
	}
	return strings.Join(list, " ")
}

// madeDocs are n documents whose ids rise.
func madeDocs(dice *rand.Rand, s api.Schema, n int) []api.Doc {
	docs := make([]api.Doc, n)
	next := 0
	for i := range docs {
		next += dice.Intn(1 << dice.Intn(9))
		docs[i].Id = next
		next++
		for range dice.Intn(1 << dice.Intn(4)) {
			f := s.Fields[dice.Intn(len(s.Fields))]
			docs[i].Values = append(docs[i].Values, api.Value{Name: f.Name, Text: madeText(dice, f.Kind)})
		}
	}
	return docs
}

// madeDead are none, some or all of n documents.
func madeDead(dice *rand.Rand, n int) []int {
	keep := dice.Intn(4)
	return slices.DeleteFunc(run(0, n), func(int) bool {
		return dice.Intn(3) < keep
	})
}

// madeParts are n parts over one schema. The documents of two parts may have one id: nothing asks for others.
func madeParts(t testing.TB, dice *rand.Rand, s api.Schema, n int) []made {
	t.Helper()
	list := make([]made, n)
	for i := range list {
		docs := madeDocs(dice, s, dice.Intn(1<<dice.Intn(6)))
		list[i] = mustMake(t, s, docs, madeDead(dice, len(docs))...)
	}
	return list
}
