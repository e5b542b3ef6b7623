package compile_test

import (
	"fmt"
	"slices"
	"strings"
	"testing"
	"unsafe"

	"concord/api"
	"concord/compile"
)

// room is a piece of memory: from its first byte up to the one behind its last.
type room struct{ from, to uintptr }

// textRoom is the memory of a text.
func textRoom(s string) []room {
	if s == "" {
		return nil
	}
	from := uintptr(unsafe.Pointer(unsafe.StringData(s)))
	return []room{{from, from + uintptr(len(s))}}
}

// listRoom is the memory of a list, spare room included.
func listRoom[E any](list []E) []room {
	if cap(list) == 0 {
		return nil
	}
	from := uintptr(unsafe.Pointer(unsafe.SliceData(list)))
	return []room{{from, from + uintptr(cap(list))*unsafe.Sizeof(*new(E))}}
}

func queryRooms(q api.Query) []room {
	out := slices.Concat(textRoom(q.Text), listRoom(q.Terms), listRoom(q.Offs), listRoom(q.Occur), listRoom(q.Kids))
	for _, text := range q.Terms {
		out = append(out, textRoom(text)...)
	}
	for _, kid := range q.Kids {
		out = append(out, queryRooms(kid)...)
	}
	return out
}

func leavesRooms(leaves []api.Leaf) []room {
	out := listRoom(leaves)
	for _, leaf := range leaves {
		out = append(out, textRoom(leaf.Term)...)
	}
	return out
}

// givenRooms is the memory of what is handed in.
func givenRooms(pl api.Plan, st api.Stats) []room {
	return slices.Concat(queryRooms(pl.Root), leavesRooms(pl.Drive), listRoom(st.Sums))
}

// progRooms is the memory of a program's lists and texts.
func progRooms(p api.Prog) []room {
	out := slices.Concat(listRoom(p.Avgs), leavesRooms(p.Cursors), listRoom(p.Nears), listRoom(p.Drive), listRoom(p.Code))
	for _, n := range p.Nears {
		out = slices.Concat(out, listRoom(n.Cursors), listRoom(n.Offs))
	}
	return out
}

// wantApart says that no two pieces of memory share any.
func wantApart(t *testing.T, what any, rooms []room) {
	t.Helper()
	rooms = slices.Clone(rooms)
	slices.SortFunc(rooms, func(a, b room) int { return int(a.from) - int(b.from) })
	for i := 1; i < len(rooms); i++ {
		if rooms[i].from < rooms[i-1].to {
			t.Fatalf("%s: two pieces of what is handed out share memory", brief(what))
		}
	}
}

// lender hands out texts and lists in memory of its own, with spare room, and keeps hold of it.
type lender struct {
	texts [][]byte
}

func (l *lender) text(s string) string {
	if s == "" {
		return ""
	}
	own := []byte(s)
	l.texts = append(l.texts, own)
	return unsafe.String(&own[0], len(own))
}

// spared is a list with spare room, in which the last one stands twice.
func spared[E any](list []E, last E) []E {
	return append(append(make([]E, 0, len(list)+2), list...), last, last)[:len(list)]
}

func (l *lender) query(q api.Query) api.Query {
	q.Text = l.text(q.Text)
	q.Terms, q.Offs, q.Occur, q.Kids = spared(q.Terms, "spare"), spared(q.Offs, -555), spared(q.Occur, 555), spared(q.Kids, api.Query{Kind: 555})
	for i, text := range q.Terms {
		q.Terms[i] = l.text(text)
	}
	for i, kid := range q.Kids {
		q.Kids[i] = l.query(kid)
	}
	return q
}

func (l *lender) plan(pl api.Plan) api.Plan {
	pl.Root, pl.Drive = l.query(pl.Root), spared(pl.Drive, api.Leaf{Field: -555})
	for i, leaf := range pl.Drive {
		pl.Drive[i].Term = l.text(leaf.Term)
	}
	return pl
}

// overwrite writes into all texts that were handed out.
func (l *lender) overwrite() {
	for _, text := range l.texts {
		for i := range text {
			text[i] = '#'
		}
	}
}

// fill writes one value all over a list, spare room included.
func fill[E any](list []E, v E) {
	for i := range list[:cap(list)] {
		list[:cap(list)][i] = v
	}
}

// spoilQuery writes into all lists of a query, spare room included.
func spoilQuery(q api.Query) {
	for _, kid := range q.Kids {
		spoilQuery(kid)
	}
	fill(q.Kids, api.Query{Kind: 333, Text: "spoilt"})
	fill(q.Terms, "spoilt")
	fill(q.Offs, -444)
	fill(q.Occur, -444)
}

// spoilProg writes into all lists of a program, spare room included.
func spoilProg(p api.Prog) {
	for _, n := range p.Nears {
		fill(n.Cursors, -444)
		fill(n.Offs, -333)
	}
	fill(p.Avgs, -222)
	fill(p.Drive, -111)
	fill(p.Code, 255)
	fill(p.Cursors, api.Leaf{Field: -777, Term: "spoilt"})
	fill(p.Nears, api.Near{Slop: -777})
}

// wholeQuery is a query with the spare room of its lists as well, told as a text.
func wholeQuery(q api.Query) string {
	out := fmt.Sprintf("%q", []any{q, q.Terms[:cap(q.Terms)], q.Offs[:cap(q.Offs)], q.Occur[:cap(q.Occur)], q.Kids[:cap(q.Kids)]})
	for _, kid := range q.Kids {
		out += wholeQuery(kid)
	}
	return out
}

// whole is what is handed in, spare room included.
func whole(pl api.Plan, st api.Stats) string {
	return fmt.Sprintf("%s %v %v %v %v", wholeQuery(pl.Root), pl.All, pl.Drive[:cap(pl.Drive)], st.Docs, st.Sums[:cap(st.Sums)])
}

// sharing are plans in which one list and one text stand at several places.
func sharing() []api.Plan {
	text := strings.Repeat("ab", 2)
	terms, offs := []string{text, text, text[1:]}, []int{api.Must, api.Should, api.MustNot}
	word, near := term(0, text, 3), api.Query{Kind: api.QPhrase, Terms: terms, Offs: offs, Weight: 3}
	kids := []api.Query{word, near, has(0), not(word), word}
	occur := []int{api.Must, api.Should, api.MustNot, api.Should, api.Must}
	mixed, some := api.Query{Kind: api.QList, Kids: kids, Occur: occur}, api.Query{Kind: api.QList, Kids: kids, Occur: make([]int, 5)}
	leaves := []api.Leaf{{Term: text}, {Term: text[1:]}, {Term: text}}
	var out []api.Plan
	for _, q := range []api.Query{
		word, near, mixed, some, most(kids...), most(mixed, mixed, most(kids...)), musts(mixed, mixed, some), shoulds(0, some, some, mixed), list(0, "+--", mixed, some, boost(2, some)), not(some), fixed(2, mixed), boost(0, some), most(near, near), musts(near, near), {Kind: api.QList, Kids: kids[:3], Occur: offs}, {Kind: api.QAll, Kids: kids[:0], Occur: occur[:0], Terms: terms[:0], Offs: offs[:0]},
	} {
		out = append(out, every(q), api.Plan{Root: q, Drive: leaves}, api.Plan{Root: q, Drive: leaves[:1]}, api.Plan{Root: q, All: true, Drive: leaves[:0]})
	}
	return out
}

// held are good plans of all sorts.
func held() []api.Plan {
	out := sharing()
	for _, leaf := range plainLeaves() {
		for _, wrap := range wraps {
			out = append(out, every(wrap(leaf)), driven(wrap(leaf), "1x 0a 1x"))
		}
	}
	m := newMaker(229)
	for range 1500 {
		out = append(out, m.plan(2, 20))
	}
	return out
}

// Rule 5: plans and statistics that are handed in stay, spare room included, and aren't kept.
func TestArgumentsStay(t *testing.T) {
	for i, pl := range held() {
		st := api.Stats{Docs: 1 + i%3, Sums: []int{i, 7}}
		var l lender
		own, ownStats := l.plan(pl), api.Stats{Docs: st.Docs, Sums: spared(st.Sums, -555)}
		before := whole(own, ownStats)
		p, err := compile.Program(own, ownStats)
		if err != nil || whole(own, ownStats) != before {
			t.Fatalf("%s has become another one, or its statistics have; %v", brief(pl), err)
		}
		spoilQuery(own.Root)
		fill(own.Drive, api.Leaf{Field: -5, Term: "spoilt"})
		fill(ownStats.Sums, -5)
		l.overwrite()
		if want := holdPlan(t, pl, st); !alikeProgs(p, want) {
			t.Fatalf("with what was handed in overwritten, the program of %s is %s, not %s", brief(pl), brief(p), brief(want))
		}
	}
}

// Rule 4, rule 5: neither does a refused call change anything.
func TestRefusedArgumentsStay(t *testing.T) {
	plans := []api.Plan{{Root: a, Drive: []api.Leaf{{Field: 2, Term: "b"}, {Field: 1, Term: "a"}}}, {Root: a, All: true, Drive: leavesOf("1b 0a")}, every(term(0, longest+"w", 1))}
	for _, q := range append(badOnes(), manyTermOnes()...) {
		plans = append(plans, driven(musts(c, q, b), "1b 0a"))
	}
	for _, pl := range plans {
		var l lender
		own, st := l.plan(pl), api.Stats{Docs: 1, Sums: spared([]int{1, 2}, -555)}
		before := whole(own, st)
		if p, err := compile.Program(own, st); err != api.ErrNode || !alikeProgs(p, api.Prog{}) {
			t.Errorf("Program(%s) is %s, %v", brief(pl), brief(p), err)
		}
		if whole(own, st) != before {
			t.Errorf("%s has become another one", brief(pl))
		}
	}
}

// Rule 5: every program is new memory, all of its lists and texts, and no two of them share any, nor do two answers.
func TestAnswersShareNothing(t *testing.T) {
	for i, pl := range held() {
		st := api.Stats{Docs: 1 + i%3, Sums: []int{i, 7}}
		first, second := holdPlan(t, pl, st), holdPlan(t, pl, st)
		answers := append(progRooms(first), progRooms(second)...)
		wantApart(t, pl, answers)
		// One text may stand in the plan twice: only what is handed out is held against all else.
		for _, given := range givenRooms(pl, st) {
			wantApart(t, pl, append(slices.Clone(answers), given))
		}
		spoilProg(first)
		if third := holdPlan(t, pl, st); !alikeProgs(second, third) {
			t.Fatalf("with one answer overwritten, another one of %s is %s, not %s", brief(pl), brief(second), brief(third))
		}
	}
}

// Rule 6: nil and empty lists mean the same.
func TestEmptyLists(t *testing.T) {
	for _, kind := range []int{api.QNone, api.QAll, api.QHas, api.QTerm} {
		without := api.Query{Kind: kind}
		empty := api.Query{Kind: kind, Terms: []string{}, Offs: []int{}, Occur: []int{}, Kids: []api.Query{}}
		for _, all := range []bool{true, false} {
			p, q := holdPlan(t, api.Plan{Root: without, All: all}, stats(1)), holdPlan(t, api.Plan{Root: empty, All: all, Drive: []api.Leaf{}}, stats(1))
			if !alikeProgs(p, q) {
				t.Errorf("with empty lists the program of %s is %s, not %s", brief(without), brief(q), brief(p))
			}
		}
		wantRefused(t, "no field", every(empty), 0)
		if _, err := compile.Program(every(empty), api.Stats{}); err != api.ErrNode {
			t.Errorf("Program(%s) over no Sums: %v", brief(empty), err)
		}
	}
}

// Rule 7: asked again, with others between, and by several at a time, alike.
func TestAskedAgain(t *testing.T) {
	plans := held()
	var want []api.Prog
	for _, pl := range plans {
		want = append(want, holdPlan(t, pl, stats(2)))
	}
	done := make(chan string)
	for range 4 {
		go func() {
			fault := ""
			for i, pl := range plans {
				if p, err := compile.Program(pl, stats(2)); err != nil || !alikeProgs(p, want[i]) {
					fault = brief(pl)
				}
			}
			done <- fault
		}()
	}
	for range 4 {
		if fault := <-done; fault != "" {
			t.Errorf("asked again, %s has another program", fault)
		}
	}
}
