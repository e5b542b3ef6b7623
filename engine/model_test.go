package engine_test

import (
	"math/big"
	"slices"
	"testing"

	"concord/api"
	"concord/merge"
	"concord/schema"
	"concord/segment"
)

// model is the engine of the chapter over plain documents.
type model struct {
	schema api.Schema
	next   int
	segs   []seg
	waits  []api.Doc
}

// seg is the documents of a segment, and which of them are dead.
type seg struct {
	docs []api.Doc
	dead []bool
}

func (g seg) live() []api.Doc {
	var docs []api.Doc
	for i, d := range g.docs {
		if !g.dead[i] {
			docs = append(docs, d)
		}
	}
	return docs
}

// deadOnes are the local numbers of the dead.
func (g seg) deadOnes() []int {
	var list []int
	for i, dead := range g.dead {
		if dead {
			list = append(list, i)
		}
	}
	return list
}

func segOf(docs []api.Doc) seg {
	return seg{docs: docs, dead: make([]bool, len(docs))}
}

// live are all live documents.
func (m *model) live() []api.Doc {
	var docs []api.Doc
	for _, g := range m.segs {
		docs = append(docs, g.live()...)
	}
	return append(docs, m.waits...)
}

func (m *model) corpus() corpus { return corpusOf(m.schema, m.live()) }

func (m *model) add(values []api.Value) (int, error) {
	if err := schema.Good(m.schema, values); err != nil {
		return 0, err
	}
	if m.next == api.MaxId {
		return 0, api.ErrLimit
	}
	m.waits = append(m.waits, api.Doc{Id: m.next, Values: values})
	m.next++
	if len(m.waits) == api.MaxDocs {
		m.cut()
	}
	return m.next - 1, nil
}

func (m *model) update(id int, values []api.Value) (int, error) {
	if _, err := m.get(id); err != nil {
		return 0, err
	}
	if err := schema.Good(m.schema, values); err != nil {
		return 0, err
	}
	if m.next == api.MaxId {
		return 0, api.ErrLimit
	}
	m.delete(id)
	return m.add(values)
}

func (m *model) delete(id int) error {
	for i, d := range m.waits {
		if d.Id == id {
			m.waits = slices.Concat(m.waits[:i], m.waits[i+1:])
			return nil
		}
	}
	for _, g := range m.segs {
		for i, d := range g.docs {
			if d.Id == id && !g.dead[i] {
				g.dead[i] = true
				return nil
			}
		}
	}
	return api.ErrDoc
}

func (m *model) get(id int) (api.Doc, error) {
	for _, d := range m.live() {
		if d.Id == id {
			return d, nil
		}
	}
	return api.Doc{}, api.ErrDoc
}

func (m *model) cut() {
	if len(m.waits) > 0 {
		m.segs = append(m.segs, segOf(m.waits))
		m.waits = nil
	}
}

func (m *model) merge(from, n int) error {
	end := new(big.Int).Add(big.NewInt(int64(from)), big.NewInt(int64(n)))
	if from < 0 || n < 1 || end.Cmp(big.NewInt(int64(len(m.segs)))) > 0 {
		return api.ErrRange
	}
	var docs []api.Doc
	for _, g := range m.segs[from : from+n] {
		docs = append(docs, g.live()...)
	}
	if len(docs) > api.MaxDocs {
		return api.ErrLimit
	}
	merged := []seg{segOf(docs)}
	if len(docs) == 0 {
		merged = nil
	}
	m.segs = slices.Concat(m.segs[:from], merged, m.segs[from+n:])
	return nil
}

func (m *model) tidy(fan int) int {
	for done := 0; ; done++ {
		var sizes []int
		for _, g := range m.segs {
			sizes = append(sizes, len(g.live()))
		}
		from, n := merge.Pick(sizes, fan)
		if n == 0 || m.merge(from, n) != nil {
			return done
		}
	}
}

func (m *model) segments() []api.SegInfo {
	var list []api.SegInfo
	for _, g := range m.segs {
		list = append(list, api.SegInfo{Docs: len(g.docs), Live: len(g.live())})
	}
	return list
}

// index cuts.
func (m *model) index(t testing.TB) api.Index {
	t.Helper()
	m.cut()
	x := api.Index{Schema: m.schema, Next: m.next}
	for _, g := range m.segs {
		x.Pieces = append(x.Pieces, api.Piece{Image: mustBuild(t, m.schema, g.docs), Dead: g.deadOnes()})
	}
	return x
}

// mustBuild is the image of documents.
func mustBuild(t testing.TB, s api.Schema, docs []api.Doc) []byte {
	t.Helper()
	image, err := segment.Build(s, docs)
	if err != nil {
		t.Fatalf("Build of %s: %v", brief(docs), err)
	}
	return image
}
