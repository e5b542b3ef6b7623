package plan_test

import (
	"fmt"
	"slices"
	"strings"
	"testing"
	"unsafe"

	"concord/api"
	"concord/plan"
)

// room is a piece of memory: from its first byte up to the one behind its last.
type room struct{ from, to uintptr }

// textRoom is the memory of a text. Texts of one byte may be those that the language keeps, which nobody writes.
func textRoom(s string) []room {
	if len(s) < 2 {
		return nil
	}
	from := uintptr(unsafe.Pointer(unsafe.StringData(s)))
	return []room{{from, from + uintptr(len(s))}}
}

// listRoom is the memory of a list, spare room included.
func listRoom[E any](list []E) []room {
	if cap(list) == 0 {
		return nil
	}
	from := uintptr(unsafe.Pointer(unsafe.SliceData(list)))
	return []room{{from, from + uintptr(cap(list))*unsafe.Sizeof(*new(E))}}
}

func queryRooms(q api.Query) []room {
	out := slices.Concat(textRoom(q.Text), textRoom(q.Lo.Text), textRoom(q.Hi.Text), listRoom(q.Terms), listRoom(q.Offs), listRoom(q.Occur), listRoom(q.Kids))
	for _, text := range q.Terms {
		out = append(out, textRoom(text)...)
	}
	for _, kid := range q.Kids {
		out = append(out, queryRooms(kid)...)
	}
	return out
}

func planRooms(p api.Plan) []room {
	out := append(queryRooms(p.Root), listRoom(p.Drive)...)
	for _, leaf := range p.Drive {
		out = append(out, textRoom(leaf.Term)...)
	}
	return out
}

// wantApart says that no two pieces of memory share any.
func wantApart(t *testing.T, what any, rooms []room) {
	t.Helper()
	rooms = slices.Clone(rooms)
	slices.SortFunc(rooms, func(a, b room) int { return int(a.from) - int(b.from) })
	for i := 1; i < len(rooms); i++ {
		if rooms[i].from < rooms[i-1].to {
			t.Fatalf("%s: two pieces of what is handed out share memory", brief(what))
		}
	}
}

// lender hands out texts and lists in memory of its own, with spare room, and keeps hold of it.
type lender struct {
	texts [][]byte
}

func (l *lender) text(s string) string {
	if s == "" {
		return ""
	}
	own := []byte(s)
	l.texts = append(l.texts, own)
	return unsafe.String(&own[0], len(own))
}

// spared is a list with spare room, in which the last one stands twice.
func spared[E any](list []E, last E) []E {
	return append(append(make([]E, 0, len(list)+2), list...), last, last)[:len(list)]
}

func (l *lender) query(q api.Query) api.Query {
	q.Text, q.Lo.Text, q.Hi.Text = l.text(q.Text), l.text(q.Lo.Text), l.text(q.Hi.Text)
	q.Terms, q.Offs, q.Occur, q.Kids = spared(q.Terms, "spare"), spared(q.Offs, 555), spared(q.Occur, 555), spared(q.Kids, api.Query{Kind: 555})
	for i, text := range q.Terms {
		q.Terms[i] = l.text(text)
	}
	for i, kid := range q.Kids {
		q.Kids[i] = l.query(kid)
	}
	return q
}

// overwrite writes into all texts that were handed out.
func (l *lender) overwrite() {
	for _, text := range l.texts {
		for i := range text {
			text[i] = '#'
		}
	}
}

// spoil writes into all lists of a query, spare room included.
func spoil(q api.Query) {
	for _, kid := range q.Kids {
		spoil(kid)
	}
	for i := range q.Kids[:cap(q.Kids)] {
		q.Kids[:cap(q.Kids)][i] = api.Query{Kind: 333, Text: "spoilt"}
	}
	for i := range q.Terms[:cap(q.Terms)] {
		q.Terms[:cap(q.Terms)][i] = "spoilt"
	}
	for _, list := range [][]int{q.Offs, q.Occur} {
		for i := range list[:cap(list)] {
			list[:cap(list)][i] = 444
		}
	}
}

func spoilPlan(p api.Plan) {
	spoil(p.Root)
	for i := range p.Drive[:cap(p.Drive)] {
		p.Drive[:cap(p.Drive)][i] = api.Leaf{Field: 777, Term: "spoilt"}
	}
}

// whole is a query with the spare room of its lists as well, told as a text.
func whole(q api.Query) string {
	out := fmt.Sprintf("%q", []any{q, q.Terms[:cap(q.Terms)], q.Offs[:cap(q.Offs)], q.Occur[:cap(q.Occur)], q.Kids[:cap(q.Kids)]})
	for _, kid := range q.Kids {
		out += whole(kid)
	}
	return out
}

// sharing are queries in which one list and one text stand at several places.
func sharing() []api.Query {
	text := strings.Repeat("ab", 2)
	terms, offs := []string{text, text}, []int{api.Must, api.Should}
	word, near := term(0, text, 3), api.Query{Kind: api.QPhrase, Terms: terms, Offs: offs, Weight: 3}
	kids := []api.Query{word, near, has(0), not(word), word}
	occur := []int{api.Must, api.Should, api.MustNot, api.Should, api.Must}
	mixed := api.Query{Kind: api.QList, Kids: kids, Occur: occur}
	some := api.Query{Kind: api.QList, Kids: kids, Occur: make([]int, 5)}
	lasting := append([]api.Query{}, kids[0], kids[1])
	return []api.Query{
		word, near, mixed, some, most(kids...), most(mixed, mixed, most(kids...)), musts(mixed, mixed, some), shoulds(0, some, some, mixed), list(0, "+--", mixed, some, boost(2, some)), not(some), fixed(2, mixed), boost(0, some),
		most(near, near), musts(near, near), most(lasting...), shoulds(0, most(lasting...), most(lasting...)), api.Query{Kind: api.QList, Kids: kids[:2], Occur: offs}, api.Query{Kind: api.QAll, Kids: kids[:0], Occur: occur[:0], Terms: terms[:0], Offs: offs[:0]},
	}
}

// wordy are parts with terms of several bytes.
func wordy(t testing.TB) []made {
	s := mustParse(t, "t:text")
	docs := inField("t", "abab", "abab long longer", "longer", "x long longer")
	return []made{mustMake(t, s, docs, 0), mustMake(t, s, docs[1:])}
}

// Rule 5: queries and lists of parts that are handed in stay, spare room included, and aren't kept.
func TestArgumentsStay(t *testing.T) {
	list := wordy(t)
	parts := partsOf(list)
	hold := func(q api.Query) {
		t.Helper()
		var l lender
		own := l.query(q)
		given := spared(parts, parts[1])
		before := whole(own)
		n, costErr := plan.Cost(own, given)
		on, err := plan.Make(own, given, true)
		off, offErr := plan.Make(own, given, false)
		if whole(own) != before || !slices.Equal(given[:cap(given)], append(slices.Clone(parts), parts[1], parts[1])) {
			t.Fatalf("%s has become another one, or its parts have", brief(q))
		}
		spoil(own)
		l.overwrite()
		clear(given[:cap(given)])
		again, againErr := plan.Make(q, parts, true)
		offAgain, offAgainErr := plan.Make(q, parts, false)
		m, costAgainErr := plan.Cost(q, parts)
		if n != m || costErr != costAgainErr || !alikePlans(on, again) || err != againErr || !alikePlans(off, offAgain) || offErr != offAgainErr {
			t.Fatalf("with what was handed in overwritten, %s is planned to %s and %s, else to %s and %s", brief(q), brief(on), brief(off), brief(again), brief(offAgain))
		}
	}
	for _, q := range slices.Concat(sharing(), smallKids(), badOnes(), manyTermOnes()) {
		hold(q)
	}
	m := newMaker(195)
	for range 400 {
		hold(m.wordy(m.within(15).query()))
	}
}

// wordy is a query whose texts are the ones of the wordy parts.
func (m *maker) wordy(q api.Query) api.Query {
	out := q
	if q.Kind == api.QTerm {
		out.Text = pickOf(m, "abab", "long", "longer", "nowhere")
	}
	out.Terms, out.Kids = nil, nil
	for range q.Terms {
		out.Terms = append(out.Terms, pickOf(m, "abab", "long", "longer", "nowhere"))
	}
	for _, kid := range q.Kids {
		out.Kids = append(out.Kids, m.wordy(kid))
	}
	return out
}

// Rule 5: what is answered is new memory, and no two of its lists and texts share any, nor do two answers.
func TestAnswersShareNothing(t *testing.T) {
	list := wordy(t)
	parts := partsOf(list)
	hold := func(q api.Query) {
		t.Helper()
		first, second := mustPlan(t, q, list), mustPlan(t, q, list)
		off, err := plan.Make(q, parts, false)
		offAgain, againErr := plan.Make(q, parts, false)
		if err != nil || againErr != nil {
			t.Fatal(err, againErr)
		}
		answers := slices.Concat(planRooms(first), planRooms(second), planRooms(off), planRooms(offAgain))
		wantApart(t, q, answers)
		// One text may stand in the query twice: only what is handed out is held against all else.
		for _, arg := range queryRooms(q) {
			wantApart(t, q, append(slices.Clone(answers), arg))
		}
		spoilPlan(first)
		spoilPlan(off)
		if !alikePlans(second, mustPlan(t, q, list)) || !alikePlans(offAgain, api.Plan{Root: q, All: true}) {
			t.Fatalf("with one answer overwritten, another one of %s is %s or %s", brief(q), brief(second), brief(offAgain))
		}
	}
	for _, q := range slices.Concat(sharing(), smallKids()) {
		hold(q)
		for _, wrap := range wraps {
			hold(wrap(q))
		}
	}
	m := newMaker(196)
	for range 1000 {
		hold(m.wordy(m.within(15).query()))
	}
}

// Rule 7: asked again, and by several at a time, alike.
func TestAskedAgain(t *testing.T) {
	m := newMaker(197)
	list := wordy(t)
	parts := partsOf(list)
	var queries []api.Query
	var want []api.Plan
	for range 200 {
		q := m.wordy(m.within(25).query())
		queries, want = append(queries, q), append(want, mustPlan(t, q, list))
	}
	done := make(chan string)
	for range 4 {
		go func() {
			fault := ""
			for i, q := range queries {
				if p, err := plan.Make(q, parts, true); err != nil || !alikePlans(p, want[i]) {
					fault = brief(q)
				}
			}
			done <- fault
		}()
	}
	for range 4 {
		if fault := <-done; fault != "" {
			t.Errorf("asked again, %s is planned in another way", fault)
		}
	}
}
