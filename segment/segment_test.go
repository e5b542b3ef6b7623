package segment_test

import (
	"bytes"
	"fmt"
	"math"
	"math/rand"
	"slices"
	"strings"
	"testing"

	"concord/api"
	"concord/cursor"
	"concord/segment"
	"concord/tokens"
)

// goneOver are the postings that a cursor goes over.
func goneOver(c *cursor.Cursor) []api.Posting {
	var list []api.Posting
	for d := c.Next(); d != api.EndDoc; d = c.Next() {
		list = append(list, api.Posting{Doc: d, Pos: c.Positions()})
	}
	return list
}

// outside are numbers of which no list has an element, if it has n.
func outside(n int) []int {
	return []int{-1, -2, -256, math.MinInt, n, n + 1, n + 256, 1 << 32, 1 << 40, math.MaxInt}
}

// holdSegment holds all calls of a segment against the documents that it was built from.
func holdSegment(t *testing.T, g *segment.Segment, s api.Schema, docs []api.Doc, image []byte) {
	t.Helper()
	if got := g.Schema(); !slices.Equal(got.Fields, s.Fields) {
		t.Fatalf("Schema is %v, not %v", got, s)
	}
	if g.Docs() != len(docs) {
		t.Fatalf("Docs is %d, not %d", g.Docs(), len(docs))
	}
	if !bytes.Equal(g.Image(), image) {
		t.Fatalf("Image is % x, not % x", g.Image(), image)
	}
	holdStored(t, g, docs)
	holdLengths(t, g, s, docs)
	holdTerms(t, g, s, docs)
}

// holdStored holds Id, Local and Stored against the documents.
func holdStored(t *testing.T, g *segment.Segment, docs []api.Doc) {
	t.Helper()
	ids := map[int]int{}
	for local, d := range docs {
		ids[d.Id] = local
		if id, ok := g.Id(local); id != d.Id || !ok {
			t.Fatalf("Id(%d) is %d and %v, not %d", local, id, ok, d.Id)
		}
		if got, ok := g.Stored(local); !ok || !sameDocs([]api.Doc{got}, docs[local:local+1]) {
			t.Fatalf("Stored(%d) is %v and %v, not %v", local, got, ok, d)
		}
	}
	for _, local := range outside(len(docs)) {
		if id, ok := g.Id(local); id != 0 || ok {
			t.Fatalf("Id(%d) of %d documents is %d and %v", local, len(docs), id, ok)
		}
		if d, ok := g.Stored(local); d.Id != 0 || d.Values != nil || ok {
			t.Fatalf("Stored(%d) of %d documents is %v and %v", local, len(docs), d, ok)
		}
	}
	ask := []int{-1, 0, 1, math.MinInt, math.MaxInt, api.MaxId - 1, api.MaxId}
	for id := range ids {
		ask = append(ask, id-1, id, id+1, -id, id+1<<40)
	}
	for _, id := range ask {
		want, there := ids[id]
		if local, ok := g.Local(id); local != want || ok != there {
			t.Fatalf("Local(%d) is %d and %v, not %d and %v", id, local, ok, want, there)
		}
	}
}

// holdLengths holds Length against the tokens of the documents.
func holdLengths(t *testing.T, g *segment.Segment, s api.Schema, docs []api.Doc) {
	t.Helper()
	for field := range s.Fields {
		for local, d := range docs {
			if got, want := g.Length(field, local), len(tokens.Field(s, field, d.Values)); got != want {
				t.Fatalf("Length(%d, %d) is %d, not %d", field, local, got, want)
			}
		}
		for _, local := range outside(len(docs)) {
			if got := g.Length(field, local); got != 0 {
				t.Fatalf("Length(%d, %d) of %d documents is %d", field, local, len(docs), got)
			}
		}
	}
	for _, field := range outside(len(s.Fields)) {
		for local := -1; local <= len(docs); local++ {
			if got := g.Length(field, local); got != 0 {
				t.Fatalf("Length(%d, %d) is %d", field, local, got)
			}
		}
	}
}

// holdTerms holds Rows, Dict and Cursor against the tokens of the documents.
func holdTerms(t *testing.T, g *segment.Segment, s api.Schema, docs []api.Doc) {
	t.Helper()
	rows := modelRows(s, docs)
	if got := g.Rows(); !sameRows(got, rows) {
		t.Fatalf("Rows are %v, not %v", got, rows)
	}
	if g.Dict().Len() != len(rows) {
		t.Fatalf("the dictionary has %d entries, not %d", g.Dict().Len(), len(rows))
	}
	have := map[string]bool{}
	for i, r := range rows {
		have[segment.Key(r.Field, r.Term)] = true
		if e, ok := g.Dict().At(i); !ok || e.Key != segment.Key(r.Field, r.Term) {
			t.Fatalf("the dictionary's entry %d is %v, not that of %v", i, e, r)
		}
		if got := goneOver(g.Cursor(r.Field, r.Term)); !samePosts(got, r.Posts) {
			t.Fatalf("the cursor over %d %q goes over %v, not %v", r.Field, r.Term, got, r.Posts)
		}
	}
	for _, r := range rows {
		for _, field := range append(outside(len(s.Fields)), r.Field+256, r.Field-256) {
			holdEmpty(t, g, field, r.Term)
		}
		for _, term := range []string{"", r.Term + "\x00", r.Term[1:], r.Term[:len(r.Term)-1], "\x00" + r.Term, strings.Repeat("long", 50)} {
			for field := range s.Fields {
				if !have[segment.Key(field, term)] {
					holdEmpty(t, g, field, term)
				}
			}
		}
	}
	holdEmpty(t, g, 0, "")
	holdEmpty(t, g, -1, "a")
}

// holdEmpty holds a cursor over a term that isn't there against the empty one.
func holdEmpty(t *testing.T, g *segment.Segment, field int, term string) {
	t.Helper()
	c := g.Cursor(field, term)
	if c == nil || c.Docs() != 0 || c.Total() != 0 || c.Doc() != cursor.Empty().Doc() || c.Next() != api.EndDoc {
		t.Fatalf("the cursor over %d %q isn't empty", field, term)
	}
}

// P10.2: the chapter's examples.
func TestSegmentExamples(t *testing.T) {
	s := mustParse(t, chapterSchema)
	none := mustOpen(t, s, nil)
	if none.Docs() != 0 || len(none.Rows()) != 0 || none.Dict().Len() != 0 {
		t.Errorf("no documents: Docs %d, Rows %v", none.Docs(), none.Rows())
	}
	g := mustOpen(t, s, chapterDocs())
	want := []api.Row{
		{Field: 0, Term: "a", Posts: []api.Posting{{Doc: 0, Pos: []int{0, 2}}}},
		{Field: 0, Term: "b", Posts: []api.Posting{{Doc: 0, Pos: []int{1}}, {Doc: 1, Pos: []int{0}}}},
		{Field: 0, Term: "c", Posts: []api.Posting{{Doc: 1, Pos: []int{17}}}},
		{Field: 1, Term: "x", Posts: []api.Posting{{Doc: 0, Pos: []int{0}}}},
	}
	if rows := g.Rows(); !sameRows(rows, want) {
		t.Errorf("Rows are %v, not %v", rows, want)
	}
	for _, row := range [][3]int{{0, 0, 3}, {0, 1, 2}, {1, 0, 1}, {1, 1, 0}, {2, 0, 0}, {-1, 0, 0}, {0, 2, 0}, {0, -1, 0}} {
		if n := g.Length(row[0], row[1]); n != row[2] {
			t.Errorf("Length(%d, %d) is %d, not %d", row[0], row[1], n, row[2])
		}
	}
	if local, ok := g.Local(7); local != 1 || !ok {
		t.Errorf("Local(7) is %d and %v", local, ok)
	}
	if local, ok := g.Local(4); local != 0 || ok {
		t.Errorf("Local(4) is %d and %v", local, ok)
	}
	holdEmpty(t, g, 0, "x")
	holdEmpty(t, g, 1, "a")
	holdEmpty(t, g, 256, "a")
}

// P10.2: rows of every kind of field, written out.
func TestSegmentRows(t *testing.T) {
	s := mustParse(t, wholeSchema)
	g := mustOpen(t, s, []api.Doc{
		doc(1, "price", "7", "title", "The Running cats", "raw", "The cats", "tag", "The cats"),
		doc(2, "title", "of", "title", "cat", "tag", "b", "price", "-7", "tag", "b", "price", "007"),
		doc(5, "raw", "", "raw", "cats "+strings.Repeat("x", 65)+" cats"),
	})
	want := []api.Row{
		{Field: 0, Term: "cat", Posts: []api.Posting{{Doc: 0, Pos: []int{2}}, {Doc: 1, Pos: []int{17}}}},
		{Field: 0, Term: "run", Posts: []api.Posting{{Doc: 0, Pos: []int{1}}}},
		{Field: 1, Term: "The cats", Posts: []api.Posting{{Doc: 0, Pos: []int{0}}}},
		{Field: 1, Term: "b", Posts: []api.Posting{{Doc: 1, Pos: []int{0, 17}}}},
		{Field: 2, Term: "\x7f\xff\xff\xff\xff\xff\xff\xf9", Posts: []api.Posting{{Doc: 1, Pos: []int{0}}}},
		{Field: 2, Term: "\x80\x00\x00\x00\x00\x00\x00\x07", Posts: []api.Posting{{Doc: 0, Pos: []int{0}}, {Doc: 1, Pos: []int{17}}}},
		{Field: 3, Term: "The", Posts: []api.Posting{{Doc: 0, Pos: []int{0}}}},
		{Field: 3, Term: "cats", Posts: []api.Posting{{Doc: 0, Pos: []int{1}}, {Doc: 2, Pos: []int{16, 18}}}},
	}
	if rows := g.Rows(); !sameRows(rows, want) {
		t.Errorf("Rows are %v, not %v", rows, want)
	}
	for field, lengths := range [][]int{{2, 1, 0}, {1, 2, 0}, {1, 2, 0}, {2, 0, 2}} {
		for local, n := range lengths {
			if got := g.Length(field, local); got != n {
				t.Errorf("Length(%d, %d) is %d, not %d", field, local, got, n)
			}
		}
	}
}

// P10.2: there and back.
func TestSegmentOfManyKinds(t *testing.T) {
	s := mustParse(t, wholeSchema)
	for _, docs := range named() {
		holdSegment(t, mustOpen(t, s, docs), s, docs, modelImage(t, s, docs))
	}
}

// P10.2: there and back, over every schema and size.
func TestSegmentOfMadeDocuments(t *testing.T) {
	dice := rand.New(rand.NewSource(102))
	for _, text := range schemas() {
		s := mustParse(t, text)
		for _, n := range []int{0, 1, 2, 3, 5, 15, 16, 17, 33} {
			docs := madeDocs(dice, s, n)
			holdSegment(t, mustOpen(t, s, docs), s, docs, modelImage(t, s, docs))
		}
	}
}

// P10.4: Rows, lengths, dictionary and cursors tell one thing. Nothing but the segment is asked here.
func TestSegmentTellsOneThing(t *testing.T) {
	dice := rand.New(rand.NewSource(104))
	whole := mustParse(t, wholeSchema)
	for _, docs := range named() {
		holdOneThing(t, mustOpen(t, whole, docs))
	}
	for _, text := range schemas() {
		s := mustParse(t, text)
		for _, n := range []int{0, 1, 7, 16, 17, 33, 100} {
			holdOneThing(t, mustOpen(t, s, madeDocs(dice, s, n)))
		}
	}
}

// holdOneThing holds the calls of a segment against each other.
func holdOneThing(t *testing.T, g *segment.Segment) {
	t.Helper()
	rows := g.Rows()
	if g.Dict().Len() != len(rows) {
		t.Fatalf("%d rows and %d entries", len(rows), g.Dict().Len())
	}
	counted := map[[2]int]int{}
	at := 0
	for i, r := range rows {
		if i > 0 && segment.Key(rows[i-1].Field, rows[i-1].Term) >= segment.Key(r.Field, r.Term) {
			t.Fatalf("row %d doesn't rise", i)
		}
		total := 0
		for _, p := range r.Posts {
			total += len(p.Pos)
			counted[[2]int{r.Field, p.Doc}] += len(p.Pos)
		}
		e, ok := g.Dict().At(i)
		if !ok || e.Key != segment.Key(r.Field, r.Term) || e.Docs != len(r.Posts) || e.Total != total || e.At != at || e.Size < 1 {
			t.Fatalf("the entry %d is %v, and its row %v", i, e, r)
		}
		at += e.Size
		c := g.Cursor(r.Field, r.Term)
		if c.Docs() != e.Docs || c.Total() != e.Total || !samePosts(goneOver(c), r.Posts) {
			t.Fatalf("the cursor over %d %q goes over %d documents and %d positions, and its row is %v", r.Field, r.Term, c.Docs(), c.Total(), r)
		}
	}
	for field := range g.Schema().Fields {
		for local := range g.Docs() {
			if n := g.Length(field, local); n != counted[[2]int{field, local}] {
				t.Fatalf("Length(%d, %d) is %d, and the rows have %d positions", field, local, n, counted[[2]int{field, local}])
			}
		}
	}
}

// P10.2: a cursor is a new one each time, and goes on without minding the others.
func TestSegmentCursorsAreNew(t *testing.T) {
	s := mustParse(t, wholeSchema)
	g := mustOpen(t, s, inAll(40))
	a := g.Cursor(0, "third")
	if a.Advance(20) != 21 {
		t.Fatalf("Advance(20) stands at %d", a.Doc())
	}
	b := g.Cursor(0, "third")
	if b.Doc() != -1 || b.Moves() != 0 || b.Next() != 0 || a.Doc() != 21 {
		t.Errorf("the first cursor stands at %d, the second at %d", a.Doc(), b.Doc())
	}
}

// Rule 5: what is handed in isn't kept, and stays as it is, spare room included.
func TestSegmentKeepsNothing(t *testing.T) {
	s, docs := mustParse(t, wholeSchema), inAll(33)
	built := mustBuild(t, s, docs)
	given := api.Schema{Fields: append(slices.Clone(s.Fields), api.Field{Name: "spare"})[:len(s.Fields)]}
	image := append(bytes.Clone(built), 7, 8, 9)[:len(built)]
	g, err := segment.Open(given, image)
	if err != nil {
		t.Fatal(err)
	}
	if !slices.Equal(given.Fields, s.Fields) || given.Fields[:5][4] != (api.Field{Name: "spare"}) {
		t.Error("Open changed the schema")
	}
	if !bytes.Equal(image, built) || !bytes.Equal(image[:len(built)+3][len(built):], []byte{7, 8, 9}) {
		t.Error("Open changed the image")
	}
	wipe(image)
	wipeFields(given)
	holdSegment(t, g, s, docs, built)
}

// Rule 5: what is handed out is new memory.
func TestSegmentHandsOutNewMemory(t *testing.T) {
	s, docs := mustParse(t, wholeSchema), inAll(33)
	built := mustBuild(t, s, docs)
	g := mustOpen(t, s, docs)
	schemaThen, imageThen, rowsThen, docThen := g.Schema(), g.Image(), g.Rows(), storedOf(t, g)
	for range 2 {
		wipeFields(g.Schema())
		wipe(g.Image())
		wipeRows(g.Rows())
		wipeDocs(storedOf(t, g))
		for i := range g.Dict().Len() {
			e, _ := g.Dict().At(i)
			c := g.Cursor(int(e.Key[0]), e.Key[1:])
			for d := c.Next(); d != api.EndDoc; d = c.Next() {
				pos := c.Positions()
				clear(pos[:cap(pos)])
			}
		}
		holdSegment(t, g, s, docs, built)
	}
	if !slices.Equal(schemaThen.Fields, s.Fields) || !bytes.Equal(imageThen, built) || !sameRows(rowsThen, modelRows(s, docs)) || !sameDocs(docThen, docs) {
		t.Error("an earlier answer changed with a later one")
	}
}

// Rule 5: no two lists of one answer share memory, spare room included.
func TestRowsShareNothing(t *testing.T) {
	s, docs := mustParse(t, wholeSchema), inAll(33)
	g := mustOpen(t, s, docs)
	for i, r := range g.Rows() {
		rows := g.Rows()
		mine := rows[i]
		for j := range rows {
			if j != i {
				wipeRows(rows[j : j+1 : j+1])
			}
		}
		if !samePosts(mine.Posts, r.Posts) || mine.Term != r.Term {
			t.Fatalf("row %d changes with the others", i)
		}
	}
	first, _ := g.Stored(0)
	second, _ := g.Stored(0)
	wipeValues(first.Values)
	if fmt.Sprint(second) != fmt.Sprint(docs[0]) {
		t.Errorf("one document handed out changes with another: %v", second)
	}
}
