package expand_test

import (
	"fmt"
	"reflect"
	"slices"
	"strings"
	"testing"
	"unsafe"

	"concord/api"
	"concord/auto"
	"concord/expand"
	"concord/segment"
)

// room is a piece of memory: from its first byte up to the one behind its last.
type room struct{ from, to uintptr }

// textRoom is the memory of a text. Texts of one byte may be those that the language keeps, which nobody writes.
func textRoom(s string) []room {
	if len(s) < 2 {
		return nil
	}
	from := uintptr(unsafe.Pointer(unsafe.StringData(s)))
	return []room{{from, from + uintptr(len(s))}}
}

// listRoom is the memory of a list, spare room included.
func listRoom[E any](list []E) []room {
	if cap(list) == 0 {
		return nil
	}
	from := uintptr(unsafe.Pointer(unsafe.SliceData(list)))
	return []room{{from, from + uintptr(cap(list))*unsafe.Sizeof(*new(E))}}
}

func queryRooms(q api.Query) []room {
	out := slices.Concat(textRoom(q.Text), textRoom(q.Lo.Text), textRoom(q.Hi.Text), listRoom(q.Terms), listRoom(q.Offs), listRoom(q.Occur), listRoom(q.Kids))
	for _, text := range q.Terms {
		out = append(out, textRoom(text)...)
	}
	for _, kid := range q.Kids {
		out = append(out, queryRooms(kid)...)
	}
	return out
}

// wantApart says that no two pieces of memory share any.
func wantApart(t *testing.T, what any, rooms []room) {
	t.Helper()
	rooms = slices.Clone(rooms)
	slices.SortFunc(rooms, func(a, b room) int { return int(a.from) - int(b.from) })
	for i := 1; i < len(rooms); i++ {
		if rooms[i].from < rooms[i-1].to {
			t.Fatalf("%s: two pieces of what is handed out share memory", brief(what))
		}
	}
}

// lender hands out texts and lists in memory of its own, with spare room, and keeps hold of it.
type lender struct {
	texts [][]byte
}

func (l *lender) text(s string) string {
	if s == "" {
		return ""
	}
	own := []byte(s)
	l.texts = append(l.texts, own)
	return unsafe.String(&own[0], len(own))
}

// spared is a list with spare room, in which the last one stands twice.
func spared[E any](list []E, last E) []E {
	return append(append(make([]E, 0, len(list)+2), list...), last, last)[:len(list)]
}

func (l *lender) query(q api.Query) api.Query {
	q.Text, q.Lo.Text, q.Hi.Text = l.text(q.Text), l.text(q.Lo.Text), l.text(q.Hi.Text)
	q.Terms, q.Offs, q.Occur, q.Kids = spared(q.Terms, "spare"), spared(q.Offs, 555), spared(q.Occur, 555), spared(q.Kids, api.Query{Kind: 555})
	for i, text := range q.Terms {
		q.Terms[i] = l.text(text)
	}
	for i, kid := range q.Kids {
		q.Kids[i] = l.query(kid)
	}
	return q
}

func (l *lender) schema(s api.Schema) api.Schema {
	s.Fields = spared(s.Fields, api.Field{Name: "spare"})
	for i, f := range s.Fields {
		s.Fields[i].Name = l.text(f.Name)
	}
	return s
}

// overwrite writes into all texts that were handed out.
func (l *lender) overwrite() {
	for _, text := range l.texts {
		for i := range text {
			text[i] = '#'
		}
	}
}

// spoil writes into all lists of a query, spare room included.
func spoil(q api.Query) {
	for _, kid := range q.Kids {
		spoil(kid)
	}
	for i := range q.Kids[:cap(q.Kids)] {
		q.Kids[:cap(q.Kids)][i] = api.Query{Kind: 333, Text: "spoilt"}
	}
	for i := range q.Terms[:cap(q.Terms)] {
		q.Terms[:cap(q.Terms)][i] = "spoilt"
	}
	for _, list := range [][]int{q.Offs, q.Occur} {
		for i := range list[:cap(list)] {
			list[:cap(list)][i] = 444
		}
	}
}

// whole is a query with the spare room of its lists as well, told as a text.
func whole(q api.Query) string {
	out := fmt.Sprintf("%q", []any{q, q.Terms[:cap(q.Terms)], q.Offs[:cap(q.Offs)], q.Occur[:cap(q.Occur)], q.Kids[:cap(q.Kids)]})
	for _, kid := range q.Kids {
		out += whole(kid)
	}
	return out
}

// sharing are queries in which one list and one text stand at several places.
func sharing() []api.Query {
	text := strings.Repeat("ab", 2)
	kids := []api.Query{term(0, text, 3), prefix(0, text), phrase(0, 0, 1, "abab abab"), has(0)}
	occur := []int{api.Must, api.Should, api.MustNot, api.Should}
	x := api.Query{Kind: api.QList, Kids: kids, Occur: occur}
	terms := []string{text, text}
	return []api.Query{
		x, most(x, x, most(kids...), not(kids[:1]...)), list(0, "+-", x, boost(2, x)),
		{Kind: api.QPhrase, Terms: terms, Offs: occur[:2]}, most(api.Query{Kind: api.QPhrase, Terms: terms, Offs: occur[:2]}, api.Query{Kind: api.QPhrase, Terms: terms, Offs: occur[:2]}),
		span(0, within(text), within(text)), list(0, "  ", fuzzy(0, 2, text), fuzzy(0, 2, text)), api.Query{Kind: api.QAll, Kids: kids[:0], Occur: occur[:0], Terms: terms[:0], Offs: occur[1:1]},
	}
}

// sharingParts are parts whose documents have the terms of sharing.
func sharingParts(t testing.TB) (api.Schema, []made) {
	s := mustParse(t, "t:text")
	return s, []made{mustMake(t, s, inField("t", "abab abac", "abab abab xx", "gone"), 2), mustMake(t, s, inField("t", "abab", "ab abc"))}
}

// Rule 5: queries, schemas and lists of parts that are handed in stay, spare room included, and aren't kept.
func TestArgumentsStay(t *testing.T) {
	hold := func(s api.Schema, q api.Query, list []made) {
		t.Helper()
		var l lender
		ownSchema, own := l.schema(s), l.query(q)
		ownParts := spared(partsOf(list...), mustMake(t, mustParse(t, "spare:text"), nil).part)
		before, fields, parts := whole(own), slices.Clone(ownSchema.Fields[:cap(ownSchema.Fields)]), slices.Clone(ownParts[:cap(ownParts)])
		x, err := expand.Expand(ownSchema, own, ownParts)
		n, countErr := expand.Count(own, ownParts)
		b, boundErr := expand.Bound(own)
		if whole(own) != before || !reflect.DeepEqual(ownSchema.Fields[:cap(ownSchema.Fields)], fields) || !slices.Equal(ownParts[:cap(ownParts)], parts) {
			t.Fatalf("%s, its schema or its parts have become others", brief(q))
		}
		spoil(own)
		clear(ownSchema.Fields[:cap(ownSchema.Fields)])
		clear(ownParts[:cap(ownParts)])
		l.overwrite()
		again, againErr := expand.Expand(s, q, partsOf(list...))
		if !alike(x, again) || err != againErr {
			t.Fatalf("with what was handed in overwritten, %s is expanded to %s, else to %s", brief(q), brief(x), brief(again))
		}
		m, mErr := expand.Count(q, partsOf(list...))
		c, cErr := expand.Bound(q)
		if n != m || b != c || countErr != mErr || boundErr != cErr {
			t.Fatalf("Count or Bound of %s, asked again, is another", brief(q))
		}
	}
	s, parts := sharingParts(t)
	for _, q := range append(sharing(), badOnes()...) {
		hold(s, q, parts)
	}
	m := newMaker(179)
	for range 300 {
		s := m.schema()
		parts := m.parts(t, s, m.Intn(4))
		for range 4 {
			hold(s, m.within(15).query(s, m.weight), parts)
		}
	}
}

// Rule 5: what Expand answers is new memory, and no two of its lists and texts share any, nor do two answers.
func TestExpandSharesNothing(t *testing.T) {
	hold := func(s api.Schema, q api.Query, list []made) {
		t.Helper()
		if corpusOf(list).count(q) > api.MaxTerms {
			return
		}
		first, second := mustExpand(t, s, q, list), mustExpand(t, s, q, list)
		answers := slices.Concat(queryRooms(first), queryRooms(second))
		wantApart(t, q, answers)
		// One text may stand in the query twice: only what is handed out is held against all else.
		for _, arg := range queryRooms(q) {
			wantApart(t, q, append(answers, arg))
		}
		spoil(first)
		if want := corpusOf(list).expanded(q); !alike(second, want) || !alike(mustExpand(t, s, q, list), want) {
			t.Fatalf("with one answer overwritten, another one of %s is %s", brief(q), brief(second))
		}
	}
	s, parts := sharingParts(t)
	for _, q := range sharing() {
		hold(s, q, append(parts, parts...))
	}
	m := newMaker(180)
	for range 200 {
		s := m.schema()
		parts := m.parts(t, s, m.Intn(4))
		for range 4 {
			hold(s, m.within(12).query(s, m.weight), parts)
		}
	}
}

// Rules 5 and 9: what Terms goes over is what was there at the call, whatever is written into the list of parts behind it, and each text is new memory.
func TestTermsShareNothing(t *testing.T) {
	_, list := sharingParts(t)
	list = append(list, list[0])
	want := corpusOf(list).terms(0, accepter(everything(0)))
	spare := mustMake(t, mustParse(t, "t:text"), inField("t", "spare")).part
	given := spared(partsOf(list...), spare)
	kept := slices.Clone(given[:cap(given)])
	seq := expand.Terms(given, 0, auto.Prefix(""))
	if got := upTo(seq, 0); !slices.Equal(got, want) || !slices.Equal(given[:cap(given)], kept) {
		t.Errorf("Terms: %v, want %v, and the list is %v", got, want, given)
	}
	var rooms []room
	for range 3 {
		i := 0
		for text, df := range seq {
			if (found{text, df}) != want[i] {
				t.Fatalf("the term number %d is %q (%d), want %v", i, text, df, want[i])
			}
			rooms = append(rooms, textRoom(text)...)
			i++
			// Written into while it is gone over.
			given[i%len(given)] = spare
		}
		if i != len(want) {
			t.Fatalf("%d terms, want %d", i, len(want))
		}
		clear(given[:cap(given)])
	}
	wantApart(t, "Terms", rooms)
	for _, p := range []*segment.Part{list[0].part, list[1].part} {
		for _, row := range p.Rows() {
			wantApart(t, "Terms and the rows", append(slices.Clone(rooms), textRoom(row.Term)...))
		}
	}
}

// Rule 7: asked again, parts being asked for other things in between, alike.
func TestAskedAgain(t *testing.T) {
	m := newMaker(181)
	s := mustParse(t, "t:text;k:keyword")
	parts := m.parts(t, s, 5)
	queries := m.queries(s, 20)
	for range 5 {
		for _, q := range queries {
			wantAlike(t, s, q, partsOf(parts...), partsOf(parts...))
			p := parts[m.Intn(len(parts))].part
			p.Rows()
			p.Cursor(0, "ab").Next()
			expand.Terms([]*segment.Part{p}, 0, auto.Prefix("a"))
		}
	}
}
