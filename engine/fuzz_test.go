package engine_test

import (
	"math/rand"
	"slices"
	"testing"

	"concord/api"
	"concord/engine"
)

// FuzzScript holds the rows of calls that bytes tell against the model.
func FuzzScript(f *testing.F) {
	dice := rand.New(rand.NewSource(265))
	for i := range 20 {
		data := make([]byte, 40*i)
		dice.Read(data)
		f.Add(data)
	}
	f.Fuzz(func(t *testing.T, data []byte) {
		m := byteMaker(data)
		b := newBench(t, m.schema(t))
		for range min(len(data)/8, 100) {
			b.step(m)
		}
		b.index()
	})
}

// FuzzText holds the outcomes of any texts against DOC.md's section Meaning, over the same documents in one segment and in several.
func FuzzText(f *testing.F) {
	for _, q := range queryTexts() {
		f.Add(q, 2)
	}
	m := newMaker(266)
	s := mustParse(f, wholeSchema)
	m.room = 20
	for range 20 {
		f.Add(m.query(s), m.roll(5))
	}
	one, many := mustNew(f, wholeSchema), mustNew(f, wholeSchema)
	many.Optimise(false)
	var docs []api.Doc
	for id := range 14 {
		values := m.values(s)
		one.Add(values)
		many.Add(values)
		if id%3 == 0 {
			many.Cut()
		}
		if id%4 != 1 {
			docs = append(docs, api.Doc{Id: id, Values: values})
		}
	}
	for id := 1; id < 14; id += 4 {
		mustDelete(f, one, id)
		mustDelete(f, many, id)
	}
	c := corpusOf(s, docs)
	f.Fuzz(func(t *testing.T, q string, k int) {
		if len(q) > 2000 {
			return
		}
		all, wantErr := c.outcome(q)
		for _, e := range []*engine.Engine{one, many} {
			if got, err := e.Search(q, k); !slices.Equal(got, firstOf(all, k)) || err != wantErr {
				t.Fatalf("Search(%q, %d): %v, %v, want %v, %v", q, k, got, err, firstOf(all, k), wantErr)
			}
			h := api.Hit{Id: k, Score: api.One}
			if got, err := e.After(q, h, 5); !slices.Equal(got, firstOf(behind(all, h), 5)) || err != wantErr {
				t.Fatalf("After(%q, %v): %v, %v", q, h, got, err)
			}
		}
	})
}
