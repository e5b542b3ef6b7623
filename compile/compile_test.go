package compile_test

import (
	"fmt"
	"math"
	"strings"
	"testing"

	"concord/api"
	"concord/bind"
)

// P22.1: the chapter's examples.
func TestExamples(t *testing.T) {
	for _, r := range []struct {
		q       api.Query
		cursors string
		code    string
	}{
		{a, "a", "term 0 5; end"},
		{list(0, "++-", a, b, c), "abc", "term 0 5; miss 5; term 1 6; and; miss 2; term 2 0; except; end"},
		{list(0, "+ ", a, b), "ab", "term 0 5; miss 2; term 1 6; opt; end"},
		{list(0, "  ", a, b), "ab", "term 0 5; term 1 6; or; end"},
		{list(2, "   ", a, b, c), "abc", "term 0 5; term 1 6; term 2 7; least 3 2; end"},
		{list(2, "+  ", a, b, c), "abc", "term 0 5; miss 4; term 1 6; term 2 7; least 2 2; and; end"},
		{list(0, "-", a), "a", "none; end"},
		{list(3, "  ", a, b), "ab", "none; end"},
		{fixed(9, list(0, "  ", a, boost(4, b))), "ab", "term 0 0; hit 2; term 1 0; or; fix 9; end"},
		{most(a, not(b)), "ab", "term 0 5; term 1 0; not; max; end"},
		{fixed(2, most(a, b)), "ab", "term 0 0; hit 2; term 1 0; max; fix 2; end"},
		{fixed(2, list(0, "+ ", a, b)), "ab", "term 0 0; fix 2; end"},
	} {
		wantCode(t, r.q, r.code)
		p := holdPlan(t, every(r.q), stats(2))
		told := ""
		for _, leaf := range p.Cursors {
			told += leaf.Term
			if leaf.Field != 0 {
				t.Errorf("a cursor of %s is %v", brief(r.q), leaf)
			}
		}
		if told != r.cursors || !p.All || len(p.Drive)+len(p.Nears) > 0 {
			t.Errorf("the program of %s is %s", brief(r.q), brief(p))
		}
	}
}

// kindRow is a query of a kind, with its two codes.
type kindRow struct {
	q          api.Query
	full, bare string
}

// kindRows have every kind of query, each at its edges.
func kindRows() []kindRow {
	near := phrase(0, 3, 20, "b a b")
	const greatest = "18446744073709551615"
	return []kindRow{
		{none, "none", "none"},
		{all, "all", "all"},
		{has(0), "has 0", "has 0"}, {has(1), "has 1", "has 1"},
		{a, "term 0 5", "term 0 0"}, {term(0, "a", 0), "term 0 0", "term 0 0"}, {term(0, "", math.MaxUint64), "term 0 " + greatest, "term 0 0"}, {term(1, longest, 1), "term 0 1", "term 0 0"},
		{near, "phrase 0 20", "phrase 0 0"}, {phrase(1, 0, 0, "x"), "phrase 0 0", "phrase 0 0"}, {phrase(1, 0, math.MaxUint64, "x x"), "phrase 0 " + greatest, "phrase 0 0"},
		{boost(0, a), "term 0 5; scale 0", "term 0 0"}, {boost(math.MaxUint64, all), "all; scale " + greatest, "all"}, {boost(2, boost(3, a)), "term 0 5; scale 3; scale 2", "term 0 0"}, {boost(2, none), "none; scale 2", "none"},
		{fixed(0, a), "term 0 0; fix 0", "term 0 0"}, {fixed(math.MaxUint64, near), "phrase 0 0; fix " + greatest, "phrase 0 0"}, {fixed(2, fixed(3, a)), "term 0 0; fix 2", "term 0 0"}, {boost(2, fixed(3, boost(4, a))), "term 0 0; fix 3; scale 2", "term 0 0"}, {fixed(2, boost(3, fixed(4, a))), "term 0 0; fix 2", "term 0 0"},
		{not(a), "term 0 0; not", "term 0 0; not"}, {not(not(all)), "all; not; not", "all; not; not"}, {not(boost(2, near)), "phrase 0 0; not", "phrase 0 0; not"},
		{most(a), "term 0 5", "term 0 0"}, {most(a, b), "term 0 5; term 1 6; max", "term 0 0; hit 2; term 1 0; max"},
		{most(c, a, boost(2, b), none), "term 2 7; term 0 5; max; term 1 6; scale 2; max; none; max", "term 2 0; hit 8; term 0 0; max; hit 5; term 1 0; max; hit 2; none; max"},
		{most(most(a, b), most(c, d)), "term 0 5; term 1 6; max; term 2 7; term 3 8; max; max", "term 0 0; hit 2; term 1 0; max; hit 5; term 2 0; hit 2; term 3 0; max; max"},
		{shoulds(0, a), "term 0 5", "term 0 0"}, {shoulds(1, a), "term 0 5", "term 0 0"}, {shoulds(2, a), "none", "none"}, {shoulds(api.MaxNumber, a, b), "none", "none"}, {musts(a), "term 0 5", "term 0 0"}, {list(0, "-", a), "none", "none"}, {list(1, "+", a), "none", "none"}, {list(1, "-", a), "none", "none"}, {list(1, "+-", a, b), "none", "none"},
		{musts(b, a), "term 1 6; miss 2; term 0 5; and", "term 1 0; miss 2; term 0 0; and"},
		{musts(b, a, c), "term 1 6; miss 5; term 0 5; and; miss 2; term 2 7; and", "term 1 0; miss 5; term 0 0; and; miss 2; term 2 0; and"},
		{shoulds(1, c, a, b), "term 2 7; term 0 5; or; term 1 6; or", "term 2 0; hit 5; term 0 0; or; hit 2; term 1 0; or"},
		{shoulds(3, c, a, b), "term 2 7; term 0 5; term 1 6; least 3 3", "term 2 0; term 0 0; term 1 0; least 3 3"},
		{list(0, "  -", a, b, c), "term 0 5; term 1 6; or; miss 2; term 2 0; except", "term 0 0; hit 2; term 1 0; or; miss 2; term 2 0; except"},
		{list(1, " + -", a, b, c, d), "term 1 6; miss 7; term 0 5; term 2 7; or; and; miss 2; term 3 0; except", "term 1 0; miss 8; term 0 0; hit 2; term 2 0; or; and; miss 2; term 3 0; except"},
		{list(2, " - +", a, b, c, d), "term 3 8; miss 7; term 0 5; term 2 7; least 2 2; and; miss 2; term 1 0; except", "term 3 0; miss 7; term 0 0; term 2 0; least 2 2; and; miss 2; term 1 0; except"},
		{list(0, " -+ -", a, b, c, d, c), "term 2 7; miss 10; term 1 0; except; miss 7; term 2 0; except; miss 4; term 0 5; opt; term 3 8; opt", "term 2 0; miss 5; term 1 0; except; miss 2; term 2 0; except"},
		{list(0, "+ -", a, list(0, "+ ", b, c), boost(2, d)), "term 0 5; miss 8; term 3 0; except; miss 5; term 1 6; miss 2; term 2 7; opt; opt", "term 0 0; miss 2; term 3 0; except"},
		{musts(shoulds(0, a, b), list(0, "+-", c, d)), "term 0 5; term 1 6; or; miss 5; term 2 7; miss 2; term 3 0; except; and", "term 0 0; hit 2; term 1 0; or; miss 5; term 2 0; miss 2; term 3 0; except; and"},
		{list(0, " -", near, near), "phrase 0 20; miss 2; phrase 1 0; except", "phrase 0 0; miss 2; phrase 1 0; except"},
	}
}

// count is how many instructions a code has.
func count(code string) int { return strings.Count(code, ";") + 1 }

// P22.1: every kind in full and bare, alone and at each place where the one or the other is asked for.
func TestKinds(t *testing.T) {
	for _, r := range kindRows() {
		n := count(r.bare)
		f, e := count(r.full)+1, n+1
		// The queries around them have no cursors, so that the numbers stay; a phrase's number is that of its place in the code.
		for _, w := range []struct {
			q    api.Query
			code string
		}{
			{r.q, r.full}, {boost(7, r.q), r.full + "; scale 7"}, {most(r.q), r.full}, {shoulds(0, r.q), r.full}, {musts(r.q), r.full},
			{most(all, r.q, all), "all; " + r.full + "; max; all; max"},
			{shoulds(1, all, r.q, all), "all; " + r.full + "; or; all; or"},
			{shoulds(2, r.q, all), r.full + "; all; least 2 2"},
			{musts(all, r.q), fmt.Sprintf("all; miss %d; %s; and", f, r.full)},
			{list(1, "+ ", all, r.q), fmt.Sprintf("all; miss %d; %s; and", f, r.full)},
			{list(0, "+ ", all, r.q), fmt.Sprintf("all; miss %d; %s; opt", f, r.full)},
			{list(0, "+- ", all, r.q, all), fmt.Sprintf("all; miss %d; %s; except; miss 2; all; opt", n+4, r.bare)},
			{not(r.q), r.bare + "; not"}, {fixed(9, r.q), r.bare + "; fix 9"},
			{list(0, "+-", all, r.q), fmt.Sprintf("all; miss %d; %s; except", e, r.bare)},
			{fixed(9, boost(7, r.q)), r.bare + "; fix 9"}, {not(fixed(7, r.q)), r.bare + "; not"}, {fixed(9, most(r.q)), r.bare + "; fix 9"}, {fixed(9, shoulds(1, r.q)), r.bare + "; fix 9"}, {fixed(9, musts(r.q)), r.bare + "; fix 9"},
			{fixed(9, most(all, r.q, all)), fmt.Sprintf("all; hit %d; %s; max; hit 2; all; max; fix 9", n+4, r.bare)},
			{fixed(9, shoulds(0, all, r.q, all)), fmt.Sprintf("all; hit %d; %s; or; hit 2; all; or; fix 9", n+4, r.bare)},
			{fixed(9, shoulds(2, r.q, all)), r.bare + "; all; least 2 2; fix 9"},
			{fixed(9, musts(all, r.q)), fmt.Sprintf("all; miss %d; %s; and; fix 9", e, r.bare)},
			{fixed(9, list(1, "+ ", all, r.q)), fmt.Sprintf("all; miss %d; %s; and; fix 9", e, r.bare)},
			{fixed(9, list(0, "+ ", all, r.q)), "all; fix 9"},
			{list(3, "  ", all, r.q), "none"}, {not(list(0, "-", r.q)), "none; not"},
		} {
			wantCode(t, w.q, w.code+"; end")
		}
	}
}

// P22.1: each kind within each within each.
func TestWithin(t *testing.T) {
	var inner []api.Query
	inner = append(inner, plainLeaves()...)
	for _, leaf := range plainLeaves() {
		for _, wrap := range wraps {
			inner = append(inner, wrap(leaf))
		}
	}
	for _, q := range inner {
		for _, near := range wraps {
			for _, far := range wraps {
				holdPlan(t, every(far(near(q))), stats(2))
			}
		}
	}
}

// P22.1, P22.2: over drawn plans and statistics.
func TestDrawnPlans(t *testing.T) {
	m := newMaker(221)
	met := kinds{}
	for range 30000 {
		fields := pickOf(m, 1, 2, 1+m.Intn(api.MaxFields), api.MaxFields)
		pl := m.plan(fields, 40)
		p := holdPlan(t, pl, m.stats(fields))
		met.note("all documents", p.All)
		met.note("nothing drives", !p.All && len(p.Drive) == 0)
		met.note("some drive", len(p.Drive) > 1 && len(p.Drive) < len(p.Cursors))
		met.note("phrases", len(p.Nears) > 1)
		met.note("all fields", len(p.Avgs) == api.MaxFields)
		met.note("many cursors", len(p.Cursors) > 10)
		met.note("long code", len(p.Code) > 100)
	}
	met.wantMany(t, 500, "all documents", "nothing drives", "some drive", "phrases", "all fields", "many cursors", "long code")
}

// P22.1, rule 7: a skip leads over what it skips by the number of instructions, not of their bytes, however long they are.
func TestLengthsOfSkips(t *testing.T) {
	for _, n := range []int{1, 2, 3, 60, 61, 62, 125, 126, 127, 128, 129, 8190, 8191, 8192, 16383, 16384, 65000} {
		many, more := term(0, "a", math.MaxUint64), "term 0 18446744073709551615"+strings.Repeat("; scale 18446744073709551615", n-1)
		for range n - 1 {
			many = boost(math.MaxUint64, many)
		}
		// The model takes long over deep queries: only the code is asked for.
		want := func(q api.Query, code string) {
			t.Helper()
			if got := codeText(t, mustProgram(t, every(q), stats(1))); got != code {
				t.Fatalf("%d instructions to skip: the code of %.200s is %.200s, want %.200s", n, brief(q), got, code)
			}
		}
		want(musts(all, many), fmt.Sprintf("all; miss %d; %s; and; end", n+1, more))
		want(list(0, "+- ", all, all, many), fmt.Sprintf("all; miss %d; all; except; miss %d; %s; opt; end", n+4, n+1, more))
		many, more = all, "all"+strings.Repeat("; not", n-1)
		for range n - 1 {
			many = not(many)
		}
		want(fixed(1, most(all, many)), fmt.Sprintf("all; hit %d; %s; max; fix 1; end", n+1, more))
		want(list(0, " -", all, many), fmt.Sprintf("all; miss %d; %s; except; end", n+1, more))
	}
}

// P22.2: the bound on instructions, at the queries that come nearest to it.
func TestInstructionsAtMost(t *testing.T) {
	for n := 1; n < 200; n++ {
		kids := make([]api.Query, n)
		for i := range kids {
			kids[i] = a
		}
		for _, q := range []api.Query{musts(kids...), shoulds(1, kids...), shoulds(n, kids...), most(kids...), not(most(kids...)), fixed(1, shoulds(1, kids...)), list(0, " "+strings.Repeat("-", n), append(kids, a)...), list(1, "+"+strings.Repeat(" ", n), append(kids, a)...)} {
			p := holdPlan(t, every(q), stats(1))
			got, most := count(codeText(t, p)), 3*bind.Size(q)+1
			if got > most {
				t.Errorf("%s has %d instructions, more than %d", brief(q), got, most)
			}
		}
		if got := count(codeText(t, holdPlan(t, every(musts(kids...)), stats(1)))); got != 3*n-1 {
			t.Errorf("%d musts have %d instructions, want %d", n, got, 3*n-1)
		}
	}
}
