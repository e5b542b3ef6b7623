package vm_test

import (
	"fmt"
	"strings"
	"testing"

	"concord/api"
)

// wantSteps says what code comes to over one document of one token, and how many instructions are carried out.
func wantSteps(t testing.TB, code, want string, steps int) {
	t.Helper()
	wantValue(t, code, want)
	p := read(t, `avgs 1; cursor 0 "a"; every; `+code+"; end")
	if run := hold(t, p, texts(t, "a"), kinds{}); run.Steps != steps {
		t.Errorf("%.300s takes %d steps, not %d", code, run.Steps, steps)
	}
}

// P23.1: miss and hit that skip 0, 1 and more instructions, over a miss, a hit of 0 and a hit. The end is a step too, what is skipped isn't.
func TestSkips(t *testing.T) {
	for _, row := range []struct {
		code  string
		want  string // of a miss, a hit of 0 and a hit of 7 below
		steps [3]int
	}{
		{"miss 0", "m 0 7", [3]int{3, 3, 3}},
		{"hit 0", "m 0 7", [3]int{3, 3, 3}},
		{"miss 0; not", "0 m m", [3]int{4, 4, 4}},
		{"hit 0; not", "0 m m", [3]int{4, 4, 4}},
		{"miss 1; not", "m m m", [3]int{3, 4, 4}},
		{"hit 1; not", "0 0 7", [3]int{4, 3, 3}},
		{"miss 1; fix 2", "m 524288 524288", [3]int{3, 4, 4}},
		{"hit 1; fix 2", "m 0 7", [3]int{4, 3, 3}},
		{"miss 2; all; or", "m O 262151", [3]int{3, 5, 5}},
		{"hit 2; all; or", "O 0 7", [3]int{5, 3, 3}},
		{"miss 2; not; not", "m 0 0", [3]int{3, 5, 5}},
		{"hit 2; not; not", "m 0 7", [3]int{5, 3, 3}},
		{"miss 1; not; not", "0 0 0", [3]int{4, 5, 5}},
		{"hit 1; not; not", "m m m", [3]int{5, 4, 4}},
		{"miss 3; none; not; and; not", "0 m m", [3]int{4, 7, 7}},
		{"hit 3; none; not; and; not", "0 m m", [3]int{7, 4, 4}},
		// One skip leads to the next one.
		{"miss 2; all; or; miss 1; not", "m m m", [3]int{4, 7, 7}},
		{"miss 1; not; hit 1; not", "0 0 0", [3]int{5, 6, 6}},
		{"miss 0; miss 0; hit 0; hit 0", "m 0 7", [3]int{6, 6, 6}},
		{"miss 1; miss 1; not", "0 m m", [3]int{4, 5, 5}},
		{"hit 1; hit 1; not", "0 m m", [3]int{5, 4, 4}},
		{"miss 1; hit 2; not; not", "m 0 7", [3]int{5, 4, 4}},
		// A skip over a skip, and a skip within what is skipped.
		{"miss 5; all; hit 2; none; or; and", "m O 262151", [3]int{3, 6, 6}},
		{"hit 5; all; miss 2; none; and; or", "m 0 7", [3]int{8, 3, 3}},
	} {
		for i, want := range strings.Fields(row.want) {
			below := []string{"none", "term 0 0", put(t, "7")}[i]
			wantSteps(t, below+"; "+row.code, want, row.steps[i])
		}
	}
}

// P23.1: skips over many instructions, up to the end.
func TestLongSkips(t *testing.T) {
	for _, n := range []int{3, 126, 127, 128, 129, 5000, 70000} {
		nots := strings.Repeat("; not", n)
		turned := []string{"m", "0"}
		for _, behind := range []string{"", "; fix 5"} {
			more := strings.Count(behind, ";")
			name := func(s string) string {
				if behind != "" && s != "m" {
					return "1310720"
				}
				return s
			}
			wantSteps(t, fmt.Sprintf("none; miss %d%s%s", n, nots, behind), "m", 3+more)
			wantSteps(t, fmt.Sprintf("term 0 0; hit %d%s%s", n, nots, behind), name("0"), 3+more)
			wantSteps(t, fmt.Sprintf("none; hit %d%s%s", n, nots, behind), name(turned[n%2]), 3+n+more)
			wantSteps(t, fmt.Sprintf("term 0 0; miss %d%s%s", n, nots, behind), name(turned[1-n%2]), 3+n+more)
		}
	}
}

// P23.1: what is skipped asks no cursor and counts no move; what it would have taken stays.
func TestSkippedAsksNothing(t *testing.T) {
	over := texts(t, "a b", "b", "a", "x", "a b")
	wantTold(t, "b is asked where a hits", `avgs 1; cursor 0 "a"; cursor 0 "b"; near 0 0+0 1+1; every; term 0 1; miss 2; term 1 1; except; end`, over,
		told{api.Hit{Id: 102, Score: 465}, true, 5 + 3 + 5, 2 + 2 + 1, 3}, // b goes on from 0 to 4, over 1
		told{api.Hit{}, false, 5 + 3 + 5 + 3 + 5, 2 + 2 + 1 + 1, 5})
	wantTold(t, "a phrase is asked where a misses", `avgs 1; cursor 0 "a"; cursor 0 "b"; near 0 1+0; every; term 0 1; hit 2; phrase 0 1; or; end`, over,
		told{api.Hit{Id: 100, Score: satOf(1, 2, 1)}, true, 3, 1, 1},
		told{api.Hit{Id: 101, Score: 465}, true, 8, 2 + 3, 2}, // b goes on to 1 by two places, and tells a position
		told{api.Hit{Id: 102, Score: 465}, true, 11, 5, 3},
		told{api.Hit{Id: 104, Score: satOf(1, 2, 1)}, true, 11 + 5 + 3, 5 + 2, 5}, // at 3 both go on to 4
		told{api.Hit{}, false, 19, 7, 5})
}

// P23.1: every visit begins at the first instruction, over an empty stack, whichever way the one before it ended.
func TestVisitsBeginAnew(t *testing.T) {
	over := texts(t, "a", "x", "a a", "x", "x", "a")
	for _, code := range []string{
		"term 0 1; miss 1; not; not; hit 2; all; or",
		"term 0 1; all; none; least 3 2; hit 1; not",
		"all; term 0 1; hit 2; all; or; opt",
		"term 0 1; hit 6; all; all; all; least 3 1; or; not",
	} {
		p := read(t, `avgs 1; cursor 0 "a"; every; `+code+"; end")
		run := hold(t, p, over, kinds{})
		sum := api.Run{}
		for i, x := range over.sheets {
			word := map[bool]string{true: strings.TrimSpace(strings.Repeat("a ", x.lengths[0])), false: "x"}[x.places[api.Leaf{Term: "a"}] != nil]
			alone := hold(t, p, texts(t, word), kinds{})
			for _, hit := range alone.Hits {
				sum.Hits = append(sum.Hits, api.Hit{Id: 100 + i, Score: hit.Score})
			}
			sum.Steps, sum.Visits = sum.Steps+alone.Steps, sum.Visits+alone.Visits
		}
		if sum.Moves = run.Moves; !alikeRuns(run, sum) {
			t.Errorf("%s comes to %v, and document by document to %v", code, run, sum)
		}
	}
}
