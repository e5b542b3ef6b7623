package vm_test

import (
	"fmt"
	"strings"
	"testing"

	"concord/api"
	"concord/vm"
)

// wantLong says what a long program tells: its hits are of the documents 100 and on, of these scores.
func wantLong(t *testing.T, name string, p api.Prog, over made, want api.Run) {
	t.Helper()
	m := mustNew(t, p, over)
	for i, w := range want.Hits {
		if hit, ok := m.Next(); !ok || hit != w {
			t.Fatalf("%s: the call %d of Next answers %v, %v, not %v", name, i, hit, ok, w)
		}
	}
	if hit, ok := m.Next(); ok || hit != (api.Hit{}) {
		t.Fatalf("%s: at the end Next answers %v, %v", name, hit, ok)
	}
	wantCounts(t, api.Prog{}, m, told{steps: want.Steps, moves: want.Moves, visits: want.Visits})
	if run, err := vm.Run(p, over.part, want.Steps); err != nil || !alikeRuns(run, want) {
		t.Fatalf("%s tells %v, %v", name, run, err)
	}
}

// P23.1: a stack of very many values.
func TestHighStack(t *testing.T) {
	const n = 1 << 20
	over := texts(t, "a", "b")
	hits := []api.Hit{{Id: 100, Score: n << 18}, {Id: 101, Score: n << 18}}
	all := strings.Repeat("all; ", n)
	wantLong(t, "at once", read(t, fmt.Sprintf("avgs 1; every; %sleast %d %d; end", all, n, n)), over, api.Run{Hits: hits, Steps: 2 * (n + 2), Visits: 2})
	wantLong(t, "one by one", read(t, "avgs 1; every; "+all+strings.Repeat("and; ", n-1)+"end"), over, api.Run{Hits: hits, Steps: 2 * 2 * n, Visits: 2})
	wantLong(t, "up and down", read(t, "avgs 1; every; all; "+strings.Repeat("all; or; ", n-1)+"end"), over, api.Run{Hits: hits, Steps: 2 * 2 * n, Visits: 2})
}

// P23.1: very many skips.
func TestManySkips(t *testing.T) {
	const n = 1 << 18
	over := texts(t, "a", "b")
	p := read(t, `avgs 1; cursor 0 "a"; every; term 0 0; `+strings.Repeat("hit 1; not; miss 1; not; ", n)+"end")
	// A hit goes through hit, miss and not to a miss, and that through hit, not, miss and not to a miss.
	wantLong(t, "skips", p, over, api.Run{Steps: 1 + 3 + 4*(n-1) + 1 + 1 + 4*n + 1, Moves: 2, Visits: 2})
}

// P23.1: very many cursors and phrases, and a phrase of very many words.
func TestManyCursors(t *testing.T) {
	const n = 1 << 14
	over := texts(t, "a", "a a", "b")
	p := api.Prog{Avgs: []int{1}}
	var code []api.Instr
	for i := range n {
		p.Cursors = append(p.Cursors, api.Leaf{Term: "a"})
		p.Nears = append(p.Nears, api.Near{Cursors: []int{i}, Offs: []int{i}})
		p.Drive = append(p.Drive, i)
		code = append(code, api.Instr{Op: api.OpPhrase, A: uint64(i), B: 1})
	}
	p.Code = encoded(append(code, api.Instr{Op: api.OpLeast, A: n, B: n}, api.Instr{Op: api.OpEnd}))
	hits := []api.Hit{{Id: 100, Score: 465 * n}, {Id: 101, Score: 499 * n}}
	wantLong(t, "many cursors", p, over, api.Run{Hits: hits, Steps: 2 * (n + 2), Moves: n * (3 + 3), Visits: 2})
	near := api.Near{Slop: n}
	for i := range n {
		near.Cursors, near.Offs = append(near.Cursors, i), append(near.Offs, i)
	}
	p.Nears, p.Code = []api.Near{near}, encoded([]api.Instr{{Op: api.OpPhrase, B: 1}, {Op: api.OpEnd}})
	// Every number from the least shifted position to the greatest is one at which the phrase may begin: with a slop of n all words lie in reach of the least.
	want := runOf(newModel(p, over, kinds{}).run())
	if len(want.Hits) != 2 {
		t.Fatalf("a phrase of many words tells %v", want)
	}
	wantLong(t, "a phrase of many words", p, over, want)
}
