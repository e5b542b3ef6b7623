package engine_test

import (
	"fmt"
	"math"
	"slices"
	"testing"

	"concord/api"
	"concord/engine"
)

// segmentsOf are segments over a text field t: a row for each, with a document for each sign, a live one for a + and a dead one for a -. The ids have gaps.
func segmentsOf(rows ...string) *model {
	m := &model{schema: api.Schema{Fields: []api.Field{{Name: "t", Kind: api.KindText}}}}
	for _, row := range rows {
		var g seg
		for _, sign := range row {
			text := fmt.Sprintf("red w%d w%d", m.next, m.next/3)
			g.docs = append(g.docs, api.Doc{Id: m.next, Values: value("t", text)})
			g.dead = append(g.dead, sign == '-')
			m.next += 1 + m.next%3
		}
		m.segs = append(m.segs, g)
	}
	return m
}

// benchOver is a bench with an engine of a model's index.
func benchOver(t testing.TB, m *model) *bench {
	t.Helper()
	e := mustFrom(t, m.index(t))
	return &bench{TB: t, model: m, engines: []*engine.Engine{e}, on: []bool{true}, met: kinds{}}
}

// P25.2: Cut with none that waits, one, many.
func TestCut(t *testing.T) {
	for _, n := range []int{0, 1, 2, 3, 17, 300} {
		b := newBench(t, mustParse(t, wholeSchema))
		m := newMaker(int64(n))
		for round := range 3 {
			for range n {
				b.add(m.values(b.model.schema))
			}
			b.look()
			b.cut()
			b.look()
			b.cut()
			b.look()
			if round == 1 {
				b.index()
			}
		}
		b.index()
	}
	// Of those that waited and were deleted none is left in the segment.
	b := newBench(t, mustParse(t, "t:text"))
	for range 4 {
		b.add(value("t", "red"))
	}
	b.delete(0)
	b.delete(2)
	b.index()
	wantSegments(t, b.engines[0], api.SegInfo{Docs: 2, Live: 2})
}

// mixed are segments of every kind: whole ones, some with dead documents, one with dead ones alone, some without documents.
func mixed() *model {
	return segmentsOf("+++", "", "+-+", "---", "-", "", "-+", "+")
}

// P25.2: Merge of all neighbours of segments of every kind, and of numbers below and above what there is.
func TestMerge(t *testing.T) {
	n := len(mixed().segs)
	for from := -2; from <= n+2; from++ {
		for count := -2; count <= n+2; count++ {
			b := benchOver(t, mixed())
			b.add(value("t", "waits"))
			b.merge(from, count)
			b.look()
			b.merge(from, count)
			b.index()
		}
	}
	great := []int{math.MaxInt, math.MaxInt - 1, math.MaxInt/2 + 1, math.MinInt, math.MinInt + 1, math.MaxInt - n, math.MaxInt - n + 1}
	for _, x := range great {
		for _, y := range append(great, -1, 0, 1, n) {
			b := benchOver(t, mixed())
			b.merge(x, y)
			b.merge(y, x)
			b.index()
		}
	}
}

// P25.2: Merge where there is no segment, and of one.
func TestMergeOfFew(t *testing.T) {
	e := mustNew(t, "t:text")
	mustAdd(t, e, "t", "waits")
	for _, x := range [][2]int{{0, 0}, {0, 1}, {-1, 1}, {0, -1}, {-1, 2}, {1, 0}, {1, -1}} {
		if err := e.Merge(x[0], x[1]); err != api.ErrRange {
			t.Errorf("Merge(%d, %d) of no segment: %v", x[0], x[1], err)
		}
	}
	wantSegments(t, e)
	for row, want := range map[string][]api.SegInfo{"": nil, "-": nil, "--": nil, "+": {{Docs: 1, Live: 1}}, "-+-": {{Docs: 1, Live: 1}}, "++": {{Docs: 2, Live: 2}}} {
		b := benchOver(t, segmentsOf(row))
		b.merge(0, 1)
		wantSegments(t, b.engines[0], want...)
		b.index()
	}
}

// alikes are so many documents of no value, as a segment.
func alikes(from, n int) seg {
	docs := make([]api.Doc, n)
	for i := range docs {
		docs[i].Id = from + i
	}
	return segOf(docs)
}

// P25.2: Merge of as many live documents as a segment may have, and of one more.
func TestMergeLimit(t *testing.T) {
	m := segmentsOf()
	m.next = 3 * api.MaxDocs
	m.segs = []seg{alikes(0, 2048), alikes(3000, 2049), alikes(6000, 1), alikes(7000, 0), alikes(7000, api.MaxDocs)}
	b := benchOver(t, m)
	for _, x := range [][3]int{{0, 2, 1}, {0, 3, 1}, {0, 4, 1}, {0, 5, 1}, {2, 3, 1}, {3, 2, 0}, {3, 1, 0}} {
		before := len(b.engines[0].Segments())
		b.merge(x[0], x[1])
		if refused := len(b.engines[0].Segments()) == before && x[1] > 1; refused != (x[2] == 1) {
			t.Errorf("Merge(%d, %d): refused is %v", x[0], x[1], refused)
		}
	}
	if b.met["merge: "+api.ErrLimit.Error()] != 5 {
		t.Errorf("so often it was the limit: %v", b.met)
	}
	b.delete(3500)
	b.merge(0, 2)
	wantSegments(t, b.engines[0], api.SegInfo{Docs: api.MaxDocs, Live: api.MaxDocs}, api.SegInfo{Docs: 1, Live: 1}, api.SegInfo{Docs: api.MaxDocs, Live: api.MaxDocs})
	b.merge(0, 2)
	b.delete(6000)
	b.merge(0, 2)
	wantSegments(t, b.engines[0], api.SegInfo{Docs: api.MaxDocs, Live: api.MaxDocs}, api.SegInfo{Docs: api.MaxDocs, Live: api.MaxDocs})
	if got := b.engines[0].Tidy(2); got != 0 {
		t.Errorf("Tidy merges %d times", got)
	}
}

// P25.2: rows of what Tidy does, by the numbers of live documents.
func TestTidyRows(t *testing.T) {
	for _, x := range []struct {
		fan   int
		rows  []string
		times int
		left  []api.SegInfo
	}{
		{2, []string{"+", "+", "+", "+"}, 3, []api.SegInfo{{Docs: 4, Live: 4}}},
		{3, []string{"+", "+", "+", "+"}, 1, []api.SegInfo{{Docs: 3, Live: 3}, {Docs: 1, Live: 1}}},
		{4, []string{"+", "+", "+", "+"}, 1, []api.SegInfo{{Docs: 4, Live: 4}}},
		{5, []string{"+", "+", "+", "+"}, 0, []api.SegInfo{{Docs: 1, Live: 1}, {Docs: 1, Live: 1}, {Docs: 1, Live: 1}, {Docs: 1, Live: 1}}},
		{1, []string{"+", "+"}, 0, []api.SegInfo{{Docs: 1, Live: 1}, {Docs: 1, Live: 1}}},
		{0, []string{"+", "+"}, 0, []api.SegInfo{{Docs: 1, Live: 1}, {Docs: 1, Live: 1}}},
		{-2, []string{"+", "+"}, 0, []api.SegInfo{{Docs: 1, Live: 1}, {Docs: 1, Live: 1}}},
		{math.MaxInt, []string{"+", "+"}, 0, []api.SegInfo{{Docs: 1, Live: 1}, {Docs: 1, Live: 1}}},
		{2, []string{"++++", "+"}, 0, []api.SegInfo{{Docs: 4, Live: 4}, {Docs: 1, Live: 1}}},
		// Dead documents don't count.
		{2, []string{"+---", "+"}, 1, []api.SegInfo{{Docs: 2, Live: 2}}},
		{2, []string{"----", "+--"}, 1, []api.SegInfo{{Docs: 1, Live: 1}}},
		{2, []string{"-", "", "--"}, 1, []api.SegInfo{{Docs: 2}}},
		{2, []string{"-", "", "--", "+"}, 2, []api.SegInfo{{Docs: 1, Live: 1}}},
		{2, []string{"-", "-"}, 1, nil},
		{2, []string{"-"}, 0, []api.SegInfo{{Docs: 1}}},
		{2, nil, 0, nil},
		{3, []string{"+", "+", "++++", "+", "+", "+", "++++"}, 3, []api.SegInfo{{Docs: 13, Live: 13}}},
		{4, []string{"+", "++++", "+", "+"}, 0, []api.SegInfo{{Docs: 1, Live: 1}, {Docs: 4, Live: 4}, {Docs: 1, Live: 1}, {Docs: 1, Live: 1}}},
		{2, []string{"++++", "+", "++", "++", "+", "+"}, 2, []api.SegInfo{{Docs: 4, Live: 4}, {Docs: 1, Live: 1}, {Docs: 4, Live: 4}, {Docs: 2, Live: 2}}},
	} {
		b := benchOver(t, segmentsOf(x.rows...))
		b.add(value("t", "waits"))
		e := b.engines[0]
		live := e.Live()
		if got := e.Tidy(x.fan); got != x.times || !slices.Equal(e.Segments(), x.left) || e.Live() != live {
			t.Errorf("Tidy(%d) of %q merges %d times, to %v, want %d, to %v", x.fan, x.rows, got, e.Segments(), x.times, x.left)
		}
		if b.model.tidy(x.fan) != x.times {
			t.Errorf("the model tidies %q otherwise", x.rows)
		}
		b.look()
		b.index()
	}
}

// P25.2: Tidy of segments of every kind, for every fan.
func TestTidy(t *testing.T) {
	m := newMaker(252)
	for range 150 {
		var rows []string
		for range m.roll(12) {
			row := ""
			for range m.roll(1 << m.roll(5)) {
				row += pickOf(m, "+", "+", "+", "-")
			}
			rows = append(rows, row)
		}
		b := benchOver(t, segmentsOf(rows...))
		b.tidy(pickOf(m, 2, 2, 3, 4, 5, len(rows), len(rows)+1))
		b.look()
		b.tidy(2)
		b.index()
		b.tidy(2)
	}
}

// P25.2: Parts that were answered stay as they were.
func TestPartsStay(t *testing.T) {
	m := newMaker(253)
	for range 20 {
		b := newBench(t, m.schema(t))
		var checks []func()
		for range 60 {
			if m.roll(6) == 0 {
				b.cut()
				want, parts := b.model.index(t), b.engines[0].Parts()
				checks = append(checks, func() { b.holdParts(parts, want) })
			}
			b.step(m)
			for _, check := range checks {
				check()
			}
		}
	}
}
