package bind_test

import (
	"fmt"
	"reflect"
	"slices"
	"strings"
	"testing"
	"unsafe"

	"concord/api"
	"concord/bind"
)

// room is a piece of memory: from its first byte up to the one behind its last.
type room struct{ from, to uintptr }

// textRoom is the memory of a text. Texts of one byte may be those that the language keeps, which nobody writes.
func textRoom(s string) []room {
	if len(s) < 2 {
		return nil
	}
	from := uintptr(unsafe.Pointer(unsafe.StringData(s)))
	return []room{{from, from + uintptr(len(s))}}
}

// listRoom is the memory of a list, spare room included.
func listRoom[E any](list []E) []room {
	if cap(list) == 0 {
		return nil
	}
	from := uintptr(unsafe.Pointer(unsafe.SliceData(list)))
	return []room{{from, from + uintptr(cap(list))*unsafe.Sizeof(*new(E))}}
}

func treeRooms(n api.Node) []room {
	out := slices.Concat(textRoom(n.Field), textRoom(n.Text), textRoom(n.Lo.Text), textRoom(n.Hi.Text), listRoom(n.Occur), listRoom(n.Kids))
	for _, kid := range n.Kids {
		out = append(out, treeRooms(kid)...)
	}
	return out
}

func queryRooms(q api.Query) []room {
	out := slices.Concat(textRoom(q.Text), textRoom(q.Lo.Text), textRoom(q.Hi.Text), listRoom(q.Terms), listRoom(q.Offs), listRoom(q.Occur), listRoom(q.Kids))
	for _, text := range q.Terms {
		out = append(out, textRoom(text)...)
	}
	for _, kid := range q.Kids {
		out = append(out, queryRooms(kid)...)
	}
	return out
}

func schemaRooms(s api.Schema) []room {
	out := listRoom(s.Fields)
	for _, f := range s.Fields {
		out = append(out, textRoom(f.Name)...)
	}
	return out
}

// wantApart says that no two pieces of memory share any.
func wantApart(t *testing.T, what any, rooms []room) {
	t.Helper()
	slices.SortFunc(rooms, func(a, b room) int { return int(a.from) - int(b.from) })
	for i := 1; i < len(rooms); i++ {
		if rooms[i].from < rooms[i-1].to {
			t.Fatalf("%s: two pieces of what is handed out share memory", brief(what))
		}
	}
}

// lender hands out texts and lists in memory of its own, with spare room, and keeps hold of it.
type lender struct {
	texts [][]byte
}

func (l *lender) text(s string) string {
	if s == "" {
		return ""
	}
	own := []byte(s)
	l.texts = append(l.texts, own)
	return unsafe.String(&own[0], len(own))
}

// spared is a list with spare room, in which the last one stands twice.
func spared[E any](list []E, last E) []E {
	return append(append(make([]E, 0, len(list)+2), list...), last, last)[:len(list)]
}

func (l *lender) tree(n api.Node) api.Node {
	n.Field, n.Text, n.Lo.Text, n.Hi.Text = l.text(n.Field), l.text(n.Text), l.text(n.Lo.Text), l.text(n.Hi.Text)
	n.Occur, n.Kids = spared(n.Occur, 555), spared(n.Kids, api.Node{Kind: 555})
	for i, kid := range n.Kids {
		n.Kids[i] = l.tree(kid)
	}
	return n
}

func (l *lender) query(q api.Query) api.Query {
	q.Text, q.Lo.Text, q.Hi.Text = l.text(q.Text), l.text(q.Lo.Text), l.text(q.Hi.Text)
	q.Terms, q.Offs, q.Occur, q.Kids = spared(q.Terms, "spare"), spared(q.Offs, 555), spared(q.Occur, 555), spared(q.Kids, api.Query{Kind: 555})
	for i, text := range q.Terms {
		q.Terms[i] = l.text(text)
	}
	for i, kid := range q.Kids {
		q.Kids[i] = l.query(kid)
	}
	return q
}

func (l *lender) schema(s api.Schema) api.Schema {
	s.Fields = spared(s.Fields, api.Field{Name: "spare"})
	for i, f := range s.Fields {
		s.Fields[i].Name = l.text(f.Name)
	}
	return s
}

// overwrite writes into all texts that were handed out.
func (l *lender) overwrite() {
	for _, text := range l.texts {
		for i := range text {
			text[i] = '#'
		}
	}
}

// spoil writes into all lists of a tree, spare room included.
func spoil(n api.Node) {
	for _, kid := range n.Kids {
		spoil(kid)
	}
	for i := range n.Kids[:cap(n.Kids)] {
		n.Kids[:cap(n.Kids)][i] = api.Node{Kind: 333, Text: "spoilt"}
	}
	for i := range n.Occur[:cap(n.Occur)] {
		n.Occur[:cap(n.Occur)][i] = 444
	}
}

// spoilQuery writes into all lists of a query, spare room included.
func spoilQuery(q api.Query) {
	for _, kid := range q.Kids {
		spoilQuery(kid)
	}
	for i := range q.Kids[:cap(q.Kids)] {
		q.Kids[:cap(q.Kids)][i] = api.Query{Kind: 333, Text: "spoilt"}
	}
	for i := range q.Terms[:cap(q.Terms)] {
		q.Terms[:cap(q.Terms)][i] = "spoilt"
	}
	for _, list := range [][]int{q.Offs, q.Occur} {
		for i := range list[:cap(list)] {
			list[:cap(list)][i] = 444
		}
	}
}

// wholeTree is a tree with the spare room of its lists as well, told as a text.
func wholeTree(n api.Node) string {
	out := fmt.Sprintf("%q", []any{n, n.Occur[:cap(n.Occur)], n.Kids[:cap(n.Kids)]})
	for _, kid := range n.Kids {
		out += wholeTree(kid)
	}
	return out
}

// wholeQuery is the same of a query.
func wholeQuery(q api.Query) string {
	out := fmt.Sprintf("%q", []any{q, q.Terms[:cap(q.Terms)], q.Offs[:cap(q.Offs)], q.Occur[:cap(q.Occur)], q.Kids[:cap(q.Kids)]})
	for _, kid := range q.Kids {
		out += wholeQuery(kid)
	}
	return out
}

// leafTrees are trees of leaves of every kind with texts of several bytes, one text standing in several places.
func leafTrees(t *testing.T) (api.Schema, []api.Node) {
	s := mustParse(t, wholeText)
	var trees []api.Node
	for _, row := range leafRows {
		leaf := treeOf(t, row.leaf)
		for _, f := range s.Fields {
			leaf.Field = f.Name
			trees = append(trees, leaf, node(api.NOr, 0, "", leaf, leaf), node(api.NList, 2, "+-", node(api.NNot, 0, "", leaf), node(api.NBoost, 3, "", leaf)))
		}
	}
	same := strings.Repeat("same", 3)
	for _, f := range s.Fields {
		trees = append(trees,
			api.Node{Kind: api.NSpan, Field: f.Name, Lo: within(same), Hi: within(same)}, api.Node{Kind: api.NSpan, Field: f.Name, Lo: within("10"), Hi: within("10")},
			api.Node{Kind: api.NPhrase, Field: f.Name, Text: same + " " + same}, node(api.NMax, 0, "", api.Node{Kind: api.NTerm, Field: f.Name, Text: same}, api.Node{Kind: api.NTerm, Field: f.Name, Text: same}))
	}
	return s, trees
}

// Rule 5: a tree and a schema that are handed in stay, spare room included, and aren't kept.
func TestTreesStay(t *testing.T) {
	hold := func(s api.Schema, n api.Node) {
		t.Helper()
		var l lender
		ownSchema, own := l.schema(s), l.tree(n)
		before, fields := wholeTree(own), slices.Clone(ownSchema.Fields[:cap(ownSchema.Fields)])
		q, err := bind.Bind(ownSchema, own)
		if wholeTree(own) != before || !reflect.DeepEqual(ownSchema.Fields[:cap(ownSchema.Fields)], fields) {
			t.Fatalf("%s or its schema has become another one", brief(n))
		}
		spoil(own)
		clear(ownSchema.Fields[:cap(ownSchema.Fields)])
		l.overwrite()
		if err != nil {
			return
		}
		if want := modelBind(s, n); !alike(q, want) {
			t.Fatalf("with what was handed in overwritten, the query of %s is %s, want %s", brief(n), brief(q), brief(want))
		}
	}
	s, trees := leafTrees(t)
	for _, n := range append(trees, badTrees()...) {
		hold(s, n)
	}
	m := newMaker(166)
	for range 1000 {
		s := m.schema()
		hold(s, m.within(20).tree(s))
	}
}

// Rule 5: a query is new memory, and no two of its lists and texts share any, nor do two answers.
func TestBindSharesNothing(t *testing.T) {
	hold := func(s api.Schema, n api.Node) {
		t.Helper()
		first, second := mustBind(t, s, n), mustBind(t, s, n)
		args := slices.Concat(treeRooms(n), schemaRooms(s))
		// One text may stand in the tree twice: only what is handed out is held against all else.
		for _, arg := range args {
			wantApart(t, n, append(slices.Concat(queryRooms(first), queryRooms(second)), arg))
		}
		wantApart(t, n, slices.Concat(queryRooms(first), queryRooms(second)))
		spoilQuery(first)
		if want := modelBind(s, n); !alike(second, want) || !alike(mustBind(t, s, n), want) {
			t.Fatalf("with one answer overwritten, another one of %s is %s", brief(n), brief(second))
		}
	}
	s, trees := leafTrees(t)
	for _, n := range trees {
		hold(s, n)
	}
	m := newMaker(167)
	for range 500 {
		s := m.schema()
		hold(s, m.within(15).tree(s))
	}
	// One list of kids that stands in a tree at several places becomes several.
	kids := []api.Node{{Kind: api.NTerm, Text: "aa"}, {Kind: api.NTerm, Text: "bb"}}
	x := api.Node{Kind: api.NList, Kids: kids, Occur: []int{api.Must, api.Should}}
	hold(s, node(api.NOr, 0, "", x, x, node(api.NAnd, 0, "", kids...), node(api.NMax, 0, "", kids[:1]...)))
}

// Rule 5: queries that are handed in stay, spare room included, and a text is new memory.
func TestQueriesStay(t *testing.T) {
	m := newMaker(168)
	queries := append(goodOnes(), fullQuery())
	for range 500 {
		q := m.within(15).query(api.MaxFields)
		queries = append(queries, q, m.change(q))
	}
	for _, q := range queries {
		var l lender
		own, other := l.query(q), l.query(q)
		before := wholeQuery(own)
		bind.Check(own, api.MaxFields, false)
		bind.Size(own)
		bind.Same(own, other)
		text, again := bind.Text(own), bind.Text(own)
		wantApart(t, q, slices.Concat(textRoom(text), textRoom(again), queryRooms(own)))
		if wholeQuery(own) != before || wholeQuery(other) != before {
			t.Fatalf("%s has become another one", brief(q))
		}
		spoilQuery(own)
		l.overwrite()
		want := ""
		if modelGood(q, api.MaxFields) {
			want = modelText(q)
		}
		if text != want || again != want {
			t.Fatalf("with the query overwritten, its text is %s, want %s", text, want)
		}
	}
}
