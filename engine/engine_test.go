package engine_test

import (
	"fmt"
	"slices"
	"strings"
	"testing"

	"concord/api"
	"concord/engine"
)

// wantHits says what Search tells of a query text, with the optimiser on and off, and that Count tells as many.
func wantHits(t *testing.T, e *engine.Engine, q string, want ...api.Hit) {
	t.Helper()
	for _, on := range []bool{false, true} {
		e.Optimise(on)
		hits, err := e.Search(q, 10)
		if !slices.Equal(hits, want) || err != nil {
			t.Errorf("Search(%q) with the optimiser %v: %v, %v, want %v", q, on, hits, err, want)
		}
		if n, err := e.Count(q); n != len(want) || err != nil {
			t.Errorf("Count(%q) with the optimiser %v: %d, %v, want %d", q, on, n, err, len(want))
		}
	}
}

// wantError says what error each call that goes by a query text's outcome answers, beside nothing else.
func wantError(t *testing.T, e *engine.Engine, q string, want error) {
	t.Helper()
	for _, on := range []bool{false, true} {
		e.Optimise(on)
		if hits, err := e.Search(q, 10); len(hits) > 0 || err != want {
			t.Errorf("Search(%.30q): %v, %v, want %v", q, hits, err, want)
		}
		if hits, err := e.Search(q, 0); len(hits) > 0 || err != want {
			t.Errorf("Search(%.30q) of none: %v, %v, want %v", q, hits, err, want)
		}
		if hits, err := e.After(q, api.Hit{Score: api.Top}, 10); len(hits) > 0 || err != want {
			t.Errorf("After(%.30q): %v, %v, want %v", q, hits, err, want)
		}
		if n, err := e.Count(q); n != 0 || err != want {
			t.Errorf("Count(%.30q): %d, %v, want %v", q, n, err, want)
		}
		if p, err := e.Program(q); len(p.Avgs)+len(p.Cursors)+len(p.Nears)+len(p.Drive)+len(p.Code) > 0 || p.All || err != want {
			t.Errorf("Program(%.30q): %s, %v, want %v", q, brief(p), err, want)
		}
		before := e.Live()
		if n, err := e.DeleteBy(q); n != 0 || err != want || e.Live() != before {
			t.Errorf("DeleteBy(%.30q): %d, %v, want %v", q, n, err, want)
		}
	}
}

// wantSegments says what Segments tells, as pairs of documents and live ones.
func wantSegments(t *testing.T, e *engine.Engine, want ...api.SegInfo) {
	t.Helper()
	if got := e.Segments(); !slices.Equal(got, want) {
		t.Errorf("Segments: %v, want %v", got, want)
	}
}

// twoDocs are the documents of the examples.
func twoDocs() [][]api.Value {
	return [][]api.Value{{{Name: "title", Text: "Red fox"}, {Name: "tag", Text: "a"}}, {{Name: "title", Text: "The red red dog"}}}
}

// twoIn is an engine with the documents of the examples.
func twoIn(t testing.TB) *engine.Engine {
	t.Helper()
	e := mustNew(t, exampleSchema)
	for i, values := range twoDocs() {
		if id, err := e.Add(values); id != i || err != nil {
			t.Fatalf("Add: %d, %v, want %d", id, err, i)
		}
	}
	return e
}

// The examples of the chapter, in their order.
func TestExamples(t *testing.T) {
	e := twoIn(t)
	wantSegments(t, e)
	if hits, err := e.Search("red", 10); len(hits) != 2 || err != nil {
		t.Errorf("Search: %v, %v", hits, err)
	}
	wantSegments(t, e, api.SegInfo{Docs: 2, Live: 2})
	if err := e.Delete(0); err != nil {
		t.Errorf("Delete: %v", err)
	}
	if err := e.Delete(0); err != api.ErrDoc {
		t.Errorf("Delete again: %v", err)
	}
	if n, err := e.Count("red"); n != 1 || err != nil {
		t.Errorf("Count: %d, %v", n, err)
	}
	if d, err := e.Get(0); d.Id != 0 || len(d.Values) > 0 || err != api.ErrDoc {
		t.Errorf("Get: %v, %v", d, err)
	}
	if err := e.Merge(0, 1); err != nil {
		t.Errorf("Merge of one: %v", err)
	}
	wantSegments(t, e, api.SegInfo{Docs: 1, Live: 1})
	if err := e.Merge(0, 2); err != api.ErrRange {
		t.Errorf("Merge of two: %v", err)
	}
	if hits, err := e.Search("(red", 10); len(hits) > 0 || err != api.ErrSyntax {
		t.Errorf("Search: %v, %v", hits, err)
	}
	if hits, err := e.Search("nothing", 10); len(hits) > 0 || err != nil {
		t.Errorf("Search: %v, %v", hits, err)
	}
	if hits, err := e.Search("*:*", 0); len(hits) > 0 || err != nil {
		t.Errorf("Search: %v, %v", hits, err)
	}
	if id, err := e.Update(1, value("title", "Blue")); id != 2 || err != nil {
		t.Errorf("Update: %d, %v", id, err)
	}
	if n := e.Live(); n != 1 {
		t.Errorf("Live: %d", n)
	}
}

// P2: the ten examples of the whole, in DOC.md.
func TestExamplesOfTheWhole(t *testing.T) {
	e := twoIn(t)
	wantHits(t, e, `red`, api.Hit{Id: 1, Score: 39195}, api.Hit{Id: 0, Score: 36046})
	wantHits(t, e, `fox`, api.Hit{Id: 0, Score: 137728})
	wantHits(t, e, `red | fox`, api.Hit{Id: 0, Score: 137728}, api.Hit{Id: 1, Score: 39195})
	wantHits(t, e, `red OR fox`, api.Hit{Id: 0, Score: 173774}, api.Hit{Id: 1, Score: 39195})
	wantHits(t, e, `red^3 -fox`, api.Hit{Id: 1, Score: 117585})
	wantHits(t, e, `+red fox^=2`, api.Hit{Id: 0, Score: 560334}, api.Hit{Id: 1, Score: 39195})
	wantHits(t, e, `*:*`, api.Hit{Id: 0, Score: 262144}, api.Hit{Id: 1, Score: 262144})
	wantHits(t, e, `NOT fox`, api.Hit{Id: 1})
	wantHits(t, e, `-fox`)
	wantHits(t, e, `"red red"`, api.Hit{Id: 1, Score: 54806})
	wantHits(t, e, `tag:[a TO b}`, api.Hit{Id: 0, Score: 119040})
	wantHits(t, e, `tag:A`)
	wantHits(t, e, `nosuch:x`)
	wantHits(t, e, `r?d AND fo*`, api.Hit{Id: 0, Score: 173774})
	wantHits(t, e, `rad~1`, api.Hit{Id: 1, Score: 39195}, api.Hit{Id: 0, Score: 36046})
	wantHits(t, e, `rad~2`, api.Hit{Id: 1, Score: 78390}, api.Hit{Id: 0, Score: 72092})
	wantError(t, e, `(red`, api.ErrSyntax)
	wantError(t, e, strings.Repeat("(", 65)+"a"+strings.Repeat(")", 65), api.ErrDeep)
	wantError(t, e, `((red^999999999)^999999999)^999999999`, api.ErrScore)
	wantHits(t, e, `(((red^999999999)^999999999)^999999999)^0`, api.Hit{Id: 0}, api.Hit{Id: 1})
	mustDelete(t, e, 1)
	wantHits(t, e, `red`, api.Hit{Id: 0, Score: 49755})
	third := mustNew(t, exampleSchema)
	for _, values := range append(twoDocs(), value("title", manyWords("w", 700)), value("title", manyWords("w1", 400))) {
		if _, err := third.Add(values); err != nil {
			t.Fatal(err)
		}
	}
	wantError(t, third, `title:w*`, api.ErrTerms)
	wantError(t, third, `NOT title:w*`, api.ErrTerms)
	if n, err := third.Count(`title:w1*`); n != 2 || err != nil {
		t.Errorf("Count: %d, %v", n, err)
	}
}

// manyWords are n words that begin with head, each with a number of three digits behind it.
func manyWords(head string, n int) string {
	var out strings.Builder
	for i := range n {
		fmt.Fprintf(&out, "%s%03d ", head, i)
	}
	return out.String()
}

// P25.1: New over good schemas is empty.
func TestNew(t *testing.T) {
	m := newMaker(251)
	for range 20 {
		s := m.schema(t)
		e, err := engine.New(s)
		if e == nil || err != nil {
			t.Fatalf("New over %s: %v, %v", brief(s), e, err)
		}
		if got := e.Schema(); !slices.Equal(got.Fields, s.Fields) {
			t.Errorf("Schema: %s, want %s", brief(got), brief(s))
		}
		wantSegments(t, e)
		e.Cut()
		wantSegments(t, e)
		if x := e.Index(); e.Live() != 0 || x.Next != 0 || len(x.Pieces) != 0 || !slices.Equal(x.Schema.Fields, s.Fields) || len(e.Parts()) != 0 {
			t.Errorf("a new engine has %d live documents and the index %s", e.Live(), brief(x))
		}
		wantHits(t, e, `*:*`)
		wantHits(t, e, `NOT red`)
		for _, id := range []int{-1, 0, 1} {
			if _, err := e.Get(id); err != api.ErrDoc {
				t.Errorf("Get(%d): %v", id, err)
			}
			if err := e.Delete(id); err != api.ErrDoc {
				t.Errorf("Delete(%d): %v", id, err)
			}
		}
		if id, err := e.Add(nil); id != 0 || err != nil {
			t.Errorf("Add of no value: %d, %v", id, err)
		}
	}
}

// badSchemas are one for each thing that a good schema has.
func badSchemas() []api.Schema {
	fields := func(list ...api.Field) api.Schema { return api.Schema{Fields: list} }
	many := api.Schema{}
	for i := range api.MaxFields + 1 {
		many.Fields = append(many.Fields, api.Field{Name: fmt.Sprintf("f%d", i), Kind: api.KindText})
	}
	return []api.Schema{
		{}, many,
		fields(api.Field{Kind: api.KindText}),
		fields(api.Field{Name: "A", Kind: api.KindText}),
		fields(api.Field{Name: "a b", Kind: api.KindText}),
		fields(api.Field{Name: strings.Repeat("a", api.MaxName+1), Kind: api.KindText}),
		fields(api.Field{Name: "a"}),
		fields(api.Field{Name: "a", Kind: 4}),
		fields(api.Field{Name: "a", Kind: api.KindKeyword, Fold: true}),
		fields(api.Field{Name: "a", Kind: api.KindNumber, Stop: true}),
		fields(api.Field{Name: "a", Kind: api.KindKeyword, Stem: true}),
		fields(api.Field{Name: "a", Kind: api.KindText}, api.Field{Name: "b", Kind: api.KindText}, api.Field{Name: "a", Kind: api.KindNumber}),
	}
}

// P25.1, P25.5: a schema that isn't good, which comes ahead of all else that is wrong with an index.
func TestBadSchemas(t *testing.T) {
	for _, s := range badSchemas() {
		if e, err := engine.New(s); e != nil || err != api.ErrSchema {
			t.Errorf("New over %s: %v, %v", brief(s), e, err)
		}
		for _, x := range []api.Index{{Schema: s}, {Schema: s, Next: -1}, {Schema: s, Pieces: []api.Piece{{}}}} {
			if e, err := engine.From(x); e != nil || err != api.ErrSchema {
				t.Errorf("From of %s: %v, %v", brief(x), e, err)
			}
		}
	}
}
