package rewrite_test

import (
	"fmt"
	"slices"
	"strings"
	"testing"
	"unsafe"

	"concord/api"
	"concord/rewrite"
)

// room is a piece of memory: from its first byte up to the one behind its last.
type room struct{ from, to uintptr }

// textRoom is the memory of a text. Texts of one byte may be those that the language keeps, which nobody writes.
func textRoom(s string) []room {
	if len(s) < 2 {
		return nil
	}
	from := uintptr(unsafe.Pointer(unsafe.StringData(s)))
	return []room{{from, from + uintptr(len(s))}}
}

// listRoom is the memory of a list, spare room included.
func listRoom[E any](list []E) []room {
	if cap(list) == 0 {
		return nil
	}
	from := uintptr(unsafe.Pointer(unsafe.SliceData(list)))
	return []room{{from, from + uintptr(cap(list))*unsafe.Sizeof(*new(E))}}
}

func queryRooms(q api.Query) []room {
	out := slices.Concat(textRoom(q.Text), textRoom(q.Lo.Text), textRoom(q.Hi.Text), listRoom(q.Terms), listRoom(q.Offs), listRoom(q.Occur), listRoom(q.Kids))
	for _, text := range q.Terms {
		out = append(out, textRoom(text)...)
	}
	for _, kid := range q.Kids {
		out = append(out, queryRooms(kid)...)
	}
	return out
}

// wantApart says that no two pieces of memory share any.
func wantApart(t *testing.T, what any, rooms []room) {
	t.Helper()
	rooms = slices.Clone(rooms)
	slices.SortFunc(rooms, func(a, b room) int { return int(a.from) - int(b.from) })
	for i := 1; i < len(rooms); i++ {
		if rooms[i].from < rooms[i-1].to {
			t.Fatalf("%s: two pieces of what is handed out share memory", brief(what))
		}
	}
}

// lender hands out texts and lists in memory of its own, with spare room, and keeps hold of it.
type lender struct {
	texts [][]byte
}

func (l *lender) text(s string) string {
	if s == "" {
		return ""
	}
	own := []byte(s)
	l.texts = append(l.texts, own)
	return unsafe.String(&own[0], len(own))
}

// spared is a list with spare room, in which the last one stands twice.
func spared[E any](list []E, last E) []E {
	return append(append(make([]E, 0, len(list)+2), list...), last, last)[:len(list)]
}

func (l *lender) query(q api.Query) api.Query {
	q.Text, q.Lo.Text, q.Hi.Text = l.text(q.Text), l.text(q.Lo.Text), l.text(q.Hi.Text)
	q.Terms, q.Offs, q.Occur, q.Kids = spared(q.Terms, "spare"), spared(q.Offs, 555), spared(q.Occur, 555), spared(q.Kids, api.Query{Kind: 555})
	for i, text := range q.Terms {
		q.Terms[i] = l.text(text)
	}
	for i, kid := range q.Kids {
		q.Kids[i] = l.query(kid)
	}
	return q
}

// overwrite writes into all texts that were handed out.
func (l *lender) overwrite() {
	for _, text := range l.texts {
		for i := range text {
			text[i] = '#'
		}
	}
}

// spoil writes into all lists of a query, spare room included.
func spoil(q api.Query) {
	for _, kid := range q.Kids {
		spoil(kid)
	}
	for i := range q.Kids[:cap(q.Kids)] {
		q.Kids[:cap(q.Kids)][i] = api.Query{Kind: 333, Text: "spoilt"}
	}
	for i := range q.Terms[:cap(q.Terms)] {
		q.Terms[:cap(q.Terms)][i] = "spoilt"
	}
	for _, list := range [][]int{q.Offs, q.Occur} {
		for i := range list[:cap(list)] {
			list[:cap(list)][i] = 444
		}
	}
}

// whole is a query with the spare room of its lists as well, told as a text.
func whole(q api.Query) string {
	out := fmt.Sprintf("%q", []any{q, q.Terms[:cap(q.Terms)], q.Offs[:cap(q.Offs)], q.Occur[:cap(q.Occur)], q.Kids[:cap(q.Kids)]})
	for _, kid := range q.Kids {
		out += whole(kid)
	}
	return out
}

// sharing are queries in which one list and one text stand at several places.
func sharing() []api.Query {
	text := strings.Repeat("ab", 2)
	terms, offs := []string{text, text}, []int{api.Must, api.Should}
	x, near, lone := term(0, text, 3), api.Query{Kind: api.QPhrase, Terms: terms, Offs: offs, Weight: 3}, api.Query{Kind: api.QPhrase, Terms: terms[:1], Offs: offs[:1]}
	kids := []api.Query{x, near, lone, has(0), not(x)}
	occur := []int{api.Must, api.Should, api.MustNot, api.Should, api.Must}
	mixed := api.Query{Kind: api.QList, Kids: kids, Occur: occur}
	some := api.Query{Kind: api.QList, Kids: kids, Occur: make([]int, 5)}
	return []api.Query{
		x, near, lone, mixed, some, most(kids...), most(mixed, mixed, most(kids...)), musts(mixed, mixed, some), shoulds(0, some, some, mixed), list(0, "+--", mixed, some, boost(2, some)), musts(not(some), not(some)), not(some), fixed(2, mixed), boost(0, some),
		most(near, near), musts(near, near), list(1, "+ ", mixed, some), api.Query{Kind: api.QList, Kids: kids[:2], Occur: offs}, api.Query{Kind: api.QAll, Kids: kids[:0], Occur: occur[:0], Terms: terms[:0], Offs: offs[:0]},
		// Normal already.
		shoulds(1, x, near), musts(near, near, shoulds(1, near, x)), list(0, "+-", near, term(0, text, 0)),
	}
}

// Rule 5: queries that are handed in stay, spare room included, and aren't kept.
func TestQueriesStay(t *testing.T) {
	hold := func(q api.Query) {
		t.Helper()
		var l lender
		own := l.query(q)
		before := whole(own)
		normal, err := rewrite.Normal(own)
		bare, bareErr := rewrite.Bare(own)
		is := rewrite.Is(own)
		if whole(own) != before {
			t.Fatalf("%s has become another one", brief(q))
		}
		spoil(own)
		l.overwrite()
		again, againErr := rewrite.Normal(q)
		bareAgain, bareAgainErr := rewrite.Bare(q)
		if !alike(normal, again) || !alike(bare, bareAgain) || err != againErr || bareErr != bareAgainErr || is != rewrite.Is(q) {
			t.Fatalf("with what was handed in overwritten, %s is rewritten to %s and %s, else to %s and %s", brief(q), brief(normal), brief(bare), brief(again), brief(bareAgain))
		}
	}
	for _, q := range slices.Concat(sharing(), smallKids(), badOnes(), manyTermOnes()) {
		hold(q)
	}
	m := newMaker(189)
	for range 1000 {
		hold(m.within(20).query(m.weight))
	}
}

// Rule 5: what is answered is new memory, and no two of its lists and texts share any, nor do two answers.
func TestAnswersShareNothing(t *testing.T) {
	hold := func(q api.Query) {
		t.Helper()
		first, second := mustNormal(t, q), mustNormal(t, q)
		bare, bareAgain := mustBare(t, q), mustBare(t, q)
		answers := slices.Concat(queryRooms(first), queryRooms(second), queryRooms(bare), queryRooms(bareAgain))
		wantApart(t, q, answers)
		// One text may stand in the query twice: only what is handed out is held against all else.
		for _, arg := range queryRooms(q) {
			wantApart(t, q, append(slices.Clone(answers), arg))
		}
		spoil(first)
		spoil(bare)
		if !alike(second, mustNormal(t, q)) || !alike(bareAgain, mustBare(t, q)) {
			t.Fatalf("with one answer overwritten, another one of %s is %s or %s", brief(q), brief(second), brief(bareAgain))
		}
	}
	for _, q := range slices.Concat(sharing(), smallKids()) {
		hold(q)
		for _, wrap := range wraps {
			hold(wrap(q))
		}
	}
	m := newMaker(190)
	for range 1500 {
		hold(m.within(20).query(m.weight))
	}
}

// Rule 7: asked again, and by several at a time, alike.
func TestAskedAgain(t *testing.T) {
	m := newMaker(191)
	var queries, want []api.Query
	for range 200 {
		q := m.within(25).query(m.weight)
		queries, want = append(queries, q), append(want, mustNormal(t, q))
	}
	done := make(chan string)
	for range 4 {
		go func() {
			fault := ""
			for i, q := range queries {
				if n, err := rewrite.Normal(q); err != nil || !alike(n, want[i]) {
					fault = brief(q)
				}
			}
			done <- fault
		}()
	}
	for range 4 {
		if fault := <-done; fault != "" {
			t.Errorf("asked again, %s is another one", fault)
		}
	}
}
