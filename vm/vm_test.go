package vm_test

import (
	"testing"

	"concord/api"
	"concord/vm"
)

// chapter is the part of the chapter's examples, but for the ids.
func chapter(t testing.TB) made {
	return texts(t, "a a b", "b", "a")
}

// P23.1: the chapter's examples.
func TestExamples(t *testing.T) {
	over := chapter(t)
	hits := []api.Hit{{Id: 100, Score: 409}, {Id: 102, Score: 465}}
	wantRun(t, "all documents", `avgs 1; cursor 0 "a"; every; term 0 1; end`, over, api.Run{Hits: hits, Steps: 6, Moves: 2, Visits: 3})
	wantRun(t, "a drives", `avgs 1; cursor 0 "a"; drive 0; term 0 1; end`, over, api.Run{Hits: hits, Steps: 4, Moves: 3, Visits: 2})
	wantRun(t, "no hits", `avgs 1; every; all; not; end`, over, api.Run{Steps: 9, Visits: 3})
	wantRun(t, "nothing drives", `avgs 1; none; end`, over, api.Run{})
	if run, err := vm.Run(read(t, `avgs 1; every; all; not; end`), over.part, 8); err != api.ErrFuel || !alikeRuns(run, api.Run{}) {
		t.Errorf("with the fuel 8: %v, %v", run, err)
	}
}

// P23.1: the chapter's examples call by call: hits and counts.
func TestExamplesByCalls(t *testing.T) {
	over := chapter(t)
	first, second := api.Hit{Id: 100, Score: 409}, api.Hit{Id: 102, Score: 465}
	wantTold(t, "all documents", `avgs 1; cursor 0 "a"; every; term 0 1; end`, over,
		told{first, true, 2, 1, 1}, told{second, true, 6, 2, 3}, told{api.Hit{}, false, 6, 2, 3})
	wantTold(t, "a drives", `avgs 1; cursor 0 "a"; drive 0; term 0 1; end`, over,
		told{first, true, 2, 1, 1}, told{second, true, 4, 2, 2}, told{api.Hit{}, false, 4, 3, 2})
	wantTold(t, "no hits", `avgs 1; every; all; not; end`, over, told{api.Hit{}, false, 9, 0, 3})
	wantTold(t, "nothing drives", `avgs 1; none; end`, over, told{})
}

// P23.1: the counts between the calls, of hits with misses between them.
func TestCountsBetween(t *testing.T) {
	over := texts(t, "x", "a", "x", "x", "a a", "x")
	wantTold(t, "those without", `avgs 1; cursor 0 "a"; every; term 0 2; not; end`, over,
		told{api.Hit{Id: 100, Score: 0}, true, 3, 1, 1},
		told{api.Hit{Id: 102, Score: 0}, true, 9, 2, 3},
		told{api.Hit{Id: 103, Score: 0}, true, 12, 2, 4},
		told{api.Hit{Id: 105, Score: 0}, true, 18, 3, 6},
		told{api.Hit{}, false, 18, 3, 6})
	// Sat(2, 2, 1) is 20480 / 41.
	wantTold(t, "those with", `avgs 1; cursor 0 "a"; every; term 0 2; end`, over,
		told{api.Hit{Id: 101, Score: 930}, true, 4, 1, 2},
		told{api.Hit{Id: 104, Score: 998}, true, 10, 2, 5},
		told{api.Hit{}, false, 12, 3, 6})
}

// P23.1: two machines over one part, of one program or of two, asked in turns.
func TestTwoInTurns(t *testing.T) {
	over := texts(t, "a b", "!a b", "b", "a", "a a b", "c")
	programs := []api.Prog{
		read(t, `avgs 2; cursor 0 "a"; cursor 0 "b"; every; term 0 3; term 1 5; or; end`),
		read(t, `avgs 2; cursor 0 "b"; cursor 0 "a"; near 0 1+0 0+1; drive 1; phrase 0 7; term 1 2; or; end`),
		read(t, `avgs 2; cursor 0 "a"; drive 0; term 0 3; end`),
	}
	for _, p := range programs {
		for _, q := range programs {
			first, second := mustNew(t, p, over), mustNew(t, q, over)
			wantFirst, wantSecond := newModel(p, over, kinds{}).run(), newModel(q, over, kinds{}).run()
			for i := range max(len(wantFirst), len(wantSecond)) {
				wantNext(t, p, first, wantFirst[min(i, len(wantFirst)-1)])
				wantNext(t, q, second, wantSecond[min(i, len(wantSecond)-1)])
				wantCounts(t, p, first, wantFirst[min(i, len(wantFirst)-1)])
			}
			// What a run tells doesn't hang on machines that were there before it.
			hold(t, p, over, kinds{})
		}
	}
}

// wantNext says what Next answers, and Counts behind it.
func wantNext(t testing.TB, p api.Prog, m *vm.Machine, want told) {
	t.Helper()
	if hit, ok := m.Next(); hit != want.hit || ok != want.ok {
		t.Fatalf("%s: Next answers %v, %v, not %v, %v", brief(p), hit, ok, want.hit, want.ok)
	}
	wantCounts(t, p, m, want)
}

// P23.1: rows for the errors, in their order.
func TestErrors(t *testing.T) {
	over := chapter(t)
	two := mustMake(t, mustParse(t, "t:text;k:keyword"), inField(0, "t", "a"))
	none := api.Prog{Avgs: []int{0}}
	for _, row := range []struct {
		name string
		prog api.Prog
		over made
		want error
	}{
		{"an empty program", api.Prog{}, over, api.ErrCode},
		{"no code", none, over, api.ErrCode},
		{"no end", read(t, "avgs 1; all"), over, api.ErrCode},
		{"an end alone", read(t, "avgs 1; end"), over, api.ErrCode},
		{"two values", read(t, "avgs 1; all; all; end"), over, api.ErrCode},
		{"a value lacks", read(t, "avgs 1; all; and; end"), over, api.ErrCode},
		{"heights that don't agree", read(t, `avgs 1; cursor 0 "a"; term 0 5; miss 1; all; and; end`), over, api.ErrCode},
		{"a skip that leads nowhere", read(t, "avgs 1; all; hit 1; end"), over, api.ErrCode},
		{"no such field", read(t, "avgs 1; has 1; end"), over, api.ErrCode},
		{"no such cursor", read(t, "avgs 1; term 0 1; end"), over, api.ErrCode},
		{"no such phrase", read(t, `avgs 1; cursor 0 "a"; phrase 0 1; end`), over, api.ErrCode},
		{"no such field of a cursor", read(t, `avgs 1; cursor 1 "a"; all; end`), over, api.ErrCode},
		{"no such cursor that drives", read(t, `avgs 1; drive 0; all; end`), over, api.ErrCode},
		{"all documents and a cursor", read(t, `avgs 1; cursor 0 "a"; every; drive 0; all; end`), over, api.ErrCode},
		{"no averages", read(t, "avgs; all; end"), over, api.ErrCode},
		{"fewer fields than averages", read(t, "avgs 1 1; all; end"), over, api.ErrSize},
		{"many fewer fields than averages", read(t, "avgs 1 1 1 1 1 1 1 1 1 1 1 1 1 1 1 1; all; end"), over, api.ErrSize},
		{"more fields than averages", read(t, "avgs 1; every; all; end"), two, api.ErrSize},
		{"both, fewer fields", read(t, "avgs 1 1; all; all; end"), over, api.ErrCode},
		{"both, more fields", read(t, "avgs 1; all; hit 1; end"), two, api.ErrCode},
		{"both, no averages", read(t, "avgs; all; end"), two, api.ErrCode},
		{"an average too many", read(t, "avgs 1 1 1 1 1 1 1 1 1 1 1 1 1 1 1 1 1; all; end"), over, api.ErrCode},
	} {
		if m, err := vm.New(row.prog, row.over.part); m != nil || err != row.want {
			t.Errorf("%s: New is %v, %v, not %v", row.name, m, err, row.want)
		}
		// Fuel is the last thing that is asked for.
		for _, fuel := range fuels(1) {
			if run, err := vm.Run(row.prog, row.over.part, fuel); err != row.want || !alikeRuns(run, api.Run{}) {
				t.Errorf("%s: Run with the fuel %d is %v, %v, not %v", row.name, fuel, run, err, row.want)
			}
		}
	}
	hold(t, read(t, "avgs 1 1; every; all; end"), two, kinds{})
	hold(t, read(t, "avgs 1; every; all; end"), over, kinds{})
}

// P23.1: a part of MaxFields fields, and one of as many averages.
func TestMostFields(t *testing.T) {
	s := mustParse(t, "a:text;b:text;c:text;d:text;e:text;f:text;g:text;h:text;i:text;j:text;k:text;l:text;m:text;n:text;o:text;p:text")
	over := mustMake(t, s, []api.Doc{{Id: 5, Values: []api.Value{{Name: "p", Text: "x y x"}, {Name: "o", Text: "x"}}}, {Id: 7, Values: []api.Value{{Name: "a", Text: "x"}}}})
	// Sat(2, 3, 15) is 307200 / 372, Sat(1, 1, 14) is 143360 / 191.
	wantRun(t, "terms", `avgs 0 1 2 3 4 5 6 7 8 9 10 11 12 13 14 15; cursor 15 "x"; cursor 14 "x"; every; term 0 1; term 1 1000; or; end`, over,
		api.Run{Hits: []api.Hit{{Id: 5, Score: 825 + 750000}}, Steps: 8, Moves: 4, Visits: 2})
	wantRun(t, "lengths", `avgs 0 1 2 3 4 5 6 7 8 9 10 11 12 13 14 15; every; has 15; has 0; max; end`, over,
		api.Run{Hits: []api.Hit{{Id: 5, Score: 262144}, {Id: 7, Score: 262144}}, Steps: 8, Visits: 2})
}
