package vm_test

import (
	"math"
	"slices"
	"testing"

	"concord/api"
	"concord/vm"
)

// toldBy is what a machine tells up to its end, and at the end.
func toldBy(m *vm.Machine) []told {
	var out []told
	for {
		hit, ok := m.Next()
		steps, moves, visits := m.Counts()
		out = append(out, told{hit, ok, steps, moves, visits})
		if !ok {
			return out
		}
	}
}

// mustNew is a machine at its beginning.
func mustNew(t testing.TB, p api.Prog, over made) *vm.Machine {
	t.Helper()
	m, err := vm.New(p, over.part)
	if err != nil || m == nil {
		t.Fatalf("New of %s: %v", brief(p), err)
	}
	wantCounts(t, p, m, told{})
	return m
}

// wantCounts says that Counts answers this, however often it is asked.
func wantCounts(t testing.TB, p api.Prog, m *vm.Machine, want told) {
	t.Helper()
	for range 2 {
		if steps, moves, visits := m.Counts(); steps != want.steps || moves != want.moves || visits != want.visits {
			t.Fatalf("%s: the counts are %d, %d, %d, not %d, %d, %d", brief(p), steps, moves, visits, want.steps, want.moves, want.visits)
		}
	}
}

// holdMachine holds a machine's calls against what it has to tell.
func holdMachine(t testing.TB, p api.Prog, over made, want []told) {
	t.Helper()
	m := mustNew(t, p, over)
	for i, w := range want {
		if hit, ok := m.Next(); hit != w.hit || ok != w.ok {
			t.Fatalf("%s: the call %d of Next answers %v, %v, not %v, %v", brief(p), i, hit, ok, w.hit, w.ok)
		}
		wantCounts(t, p, m, w)
	}
	for range 3 {
		if hit, ok := m.Next(); ok || hit != (api.Hit{}) {
			t.Fatalf("%s: behind the end Next answers %v, %v", brief(p), hit, ok)
		}
		wantCounts(t, p, m, want[len(want)-1])
	}
}

// runOf is what a run has to tell.
func runOf(want []told) api.Run {
	end := want[len(want)-1]
	run := api.Run{Steps: end.steps, Moves: end.moves, Visits: end.visits}
	for _, w := range want[:len(want)-1] {
		run.Hits = append(run.Hits, w.hit)
	}
	return run
}

func alikeRuns(a, b api.Run) bool {
	return slices.Equal(a.Hits, b.Hits) && a.Steps == b.Steps && a.Moves == b.Moves && a.Visits == b.Visits
}

// holdFuel says that a run ends with this run, or lacks fuel. P23.3.
func holdFuel(t testing.TB, p api.Prog, over made, fuel int, want api.Run) {
	t.Helper()
	var lacks error
	if want.Steps > fuel && want.Steps > 0 {
		want, lacks = api.Run{}, api.ErrFuel
	}
	if run, err := vm.Run(p, over.part, fuel); err != lacks || !alikeRuns(run, want) {
		t.Fatalf("%s with the fuel %d: %v and %v, not %v and %v", brief(p), fuel, run, err, want, lacks)
	}
}

// holdBounds holds a run against the bounds of P23.2, and of P6.
func holdBounds(t testing.TB, p api.Prog, over made, run api.Run) {
	t.Helper()
	live := over.live()
	last := -1
	for _, hit := range run.Hits {
		if hit.Id <= last || !slices.ContainsFunc(live, func(x sheet) bool { return x.id == hit.Id }) {
			t.Fatalf("%s: the hit %v doesn't rise or isn't alive", brief(p), hit)
		}
		last = hit.Id
	}
	length, held, most := len(decoded(p)), 0, 0
	for _, leaf := range p.Cursors {
		c := over.part.Cursor(leaf.Field, leaf.Term)
		held += c.Docs() + c.Total()
		most += 2*c.Docs() + c.Total() + 1
	}
	if run.Visits > len(live) || len(run.Hits) > run.Visits || run.Steps > run.Visits*length || run.Moves > most {
		t.Fatalf("%s: with %d live documents, %d instructions and at most %d moves: %v", brief(p), len(live), length, most, run)
	}
	if run.Steps < 2*run.Visits || run.Moves < 0 || p.All && run.Visits != len(live) {
		t.Fatalf("%s: with %d live documents: %v", brief(p), len(live), run)
	}
	if run.Steps+run.Moves > 2*(length+len(p.Cursors)+1)*(held+len(live)+1) {
		t.Fatalf("%s: steps and moves are above P6's bound: %v", brief(p), run)
	}
}

// fuels are numbers around those of the steps, and at the ends of Go's numbers.
func fuels(steps int) []int {
	return []int{math.MinInt, -1, 0, 1, steps / 2, steps - 1, steps, steps + 1, math.MaxInt}
}

// hold holds all calls over a good program and a part against the model, and answers what the run tells.
func hold(t testing.TB, p api.Prog, over made, met kinds) api.Run {
	t.Helper()
	want := newModel(p, over, met).run()
	holdMachine(t, p, over, want)
	run := runOf(want)
	for _, fuel := range fuels(run.Steps) {
		holdFuel(t, p, over, fuel, run)
	}
	holdBounds(t, p, over, run)
	return run
}

// wantTold says what the machine tells of a listing, call by call.
func wantTold(t testing.TB, name, listing string, over made, want ...told) {
	t.Helper()
	p := read(t, listing)
	holdMachine(t, p, over, want)
	if run := hold(t, p, over, kinds{}); !alikeRuns(run, runOf(want)) {
		t.Fatalf("%s: the run tells %v", name, run)
	}
}

// wantRun says what a run of a listing tells.
func wantRun(t testing.TB, name, listing string, over made, want api.Run) {
	t.Helper()
	p := read(t, listing)
	if run := hold(t, p, over, kinds{}); !alikeRuns(run, want) {
		t.Errorf("%s: %s tells %v, not %v", name, listing, run, want)
	}
	holdFuel(t, p, over, want.Steps, want)
}
