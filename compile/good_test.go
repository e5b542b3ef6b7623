package compile_test

import (
	"fmt"
	"math"
	"slices"
	"strings"
	"testing"

	"concord/api"
	"concord/bind"
)

// badOnes are queries that aren't good over any number of fields.
func badOnes() []api.Query {
	with := func(q api.Query, set func(q *api.Query)) api.Query {
		set(&q)
		return q
	}
	return []api.Query{
		{}, {Kind: -1}, {Kind: api.QConst + 1}, {Kind: api.QConst + 1, Kids: []api.Query{a}}, {Kind: 256 + api.QTerm, Text: "a"}, {Kind: math.MaxInt}, {Kind: math.MinInt},
		with(all, func(q *api.Query) { q.Text = "x" }),
		with(all, func(q *api.Query) { q.Kids = []api.Query{a} }),
		with(none, func(q *api.Query) { q.Field = 1 }),
		with(has(0), func(q *api.Query) { q.Weight = 1 }),
		has(-1), has(api.MaxFields),
		with(a, func(q *api.Query) { q.Field = -1 }),
		with(a, func(q *api.Query) { q.Field = api.MaxFields }),
		with(a, func(q *api.Query) { q.N = 1 }),
		with(a, func(q *api.Query) { q.Terms = []string{"a"} }),
		with(a, func(q *api.Query) { q.Lo = api.Bound{Open: true} }),
		with(a, func(q *api.Query) { q.Kids = []api.Query{all} }),
		with(phrase(0, 0, 0, "a x"), func(q *api.Query) { q.Offs = q.Offs[:1] }),
		with(phrase(0, 0, 0, "a"), func(q *api.Query) { q.Offs = nil }),
		with(phrase(0, 0, 0, "a"), func(q *api.Query) { q.Offs = []int{0, 1} }),
		with(phrase(0, 0, 0, "a x"), func(q *api.Query) { q.Offs = []int{0, -1} }),
		with(phrase(0, 0, 0, "a"), func(q *api.Query) { q.Offs = []int{api.EndDoc} }),
		with(phrase(0, 0, 0, "a"), func(q *api.Query) { q.N = api.MaxNumber + 1 }),
		with(phrase(0, 0, 0, "a"), func(q *api.Query) { q.N = -1 }),
		with(phrase(0, 0, 0, "a"), func(q *api.Query) { q.Text = "a" }),
		phrase(0, 0, 0, ""),
		list(0, ""), list(0, " ", a, a), list(0, "  ", a), list(-1, " ", a), list(api.MaxNumber+1, " ", a),
		with(list(0, " ", a), func(q *api.Query) { q.Occur = []int{3} }),
		with(list(0, " ", a), func(q *api.Query) { q.Occur = []int{-1} }),
		with(list(0, " ", a), func(q *api.Query) { q.Weight = 1 }),
		most(), with(most(a), func(q *api.Query) { q.Occur = []int{0} }), with(most(a), func(q *api.Query) { q.N = 1 }),
		not(), not(a, a), with(not(a), func(q *api.Query) { q.Weight = 1 }),
		boost(1), boost(1, a, a), boost(0), with(boost(1, a), func(q *api.Query) { q.N = 1 }),
		fixed(1), fixed(1, a, a), fixed(0), with(fixed(1, a), func(q *api.Query) { q.Text = "x" }),
	}
}

// manyTermOnes are good queries that aren't plain.
func manyTermOnes() []api.Query {
	return []api.Query{
		{Kind: api.QPrefix, Text: "a"}, {Kind: api.QWild, Text: "a*"}, {Kind: api.QFuzzy, Text: "a", N: 1},
		{Kind: api.QSpan, Lo: api.Bound{Open: true}, Hi: api.Bound{In: true, Text: "b"}},
	}
}

// P22.1: no field, as many as there may be, and more.
func TestNumberOfFields(t *testing.T) {
	for n := range 40 {
		for _, q := range []api.Query{all, none, a, has(0), phrase(0, 0, 1, "a b"), list(0, "-", all)} {
			for _, pl := range []api.Plan{every(q), {Root: q}, driven(q, "0a")} {
				if n == 0 || n > api.MaxFields {
					wantRefused(t, fmt.Sprint(n, " fields"), pl, n)
				} else {
					holdPlan(t, pl, stats(n))
				}
			}
		}
	}
	for _, n := range []int{100, 256, 65536 + 1} {
		wantRefused(t, fmt.Sprint(n, " fields"), every(all), n)
	}
}

// P22.1: a Root that isn't good over so many fields.
func TestFieldsOfRoot(t *testing.T) {
	for n := 1; n <= api.MaxFields; n++ {
		for _, make := range []func(f int) api.Query{has, func(f int) api.Query { return term(f, "a", 1) }, func(f int) api.Query { return phrase(f, 0, 1, "a b") }} {
			for _, f := range []int{n - 1, n, n + 1, -1, math.MaxInt, math.MinInt, 256, api.MaxFields} {
				for _, wrap := range append(wraps, func(q api.Query) api.Query { return q }) {
					if q := wrap(make(f)); f == n-1 {
						holdPlan(t, every(q), stats(n))
					} else {
						wantRefused(t, "a field of Root", every(q), n)
					}
				}
			}
		}
	}
}

// P22.1: a Root that isn't good, or isn't plain, wherever in it, also where no instruction comes of it.
func TestBadRoots(t *testing.T) {
	for _, q := range append(badOnes(), manyTermOnes()...) {
		for _, n := range []int{1, 2, api.MaxFields} {
			wantRefused(t, "a bad root", every(q), n)
			wantRefused(t, "a bad root", api.Plan{Root: q}, n)
		}
		for _, near := range wraps {
			wantRefused(t, "a bad root", every(near(q)), 2)
			for _, far := range wraps {
				wantRefused(t, "a bad root", every(far(near(q))), 2)
			}
		}
	}
	for _, q := range manyTermOnes() {
		if err := bind.Check(q, 1, false); err != nil {
			t.Errorf("%s isn't good beside being of many terms", brief(q))
		}
	}
}

// P22.1: terms of Root and of Drive as long as they may be, and longer.
func TestLongTerms(t *testing.T) {
	for _, n := range []int{0, 1, 63, 64, 65, 66, 100, 256 + 64, 5000} {
		for _, unit := range []string{"x", "\x00", "\xff"} {
			text := strings.Repeat(unit, n)
			near := api.Query{Kind: api.QPhrase, Terms: []string{text}, Offs: []int{0}}
			first := api.Query{Kind: api.QPhrase, Terms: []string{text, "a", "b"}, Offs: []int{0, 1, 2}}
			last := api.Query{Kind: api.QPhrase, Terms: []string{"a", "b", text}, Offs: []int{0, 1, 2}}
			plans := []api.Plan{{Root: all, Drive: []api.Leaf{{Term: text}}}, {Root: a, Drive: []api.Leaf{{Term: "a"}, {Term: text}, {Field: 1, Term: "b"}}}, {Root: a, Drive: []api.Leaf{{Field: 1, Term: text}, {Term: "a"}}}}
			for _, q := range []api.Query{term(0, text, 1), term(1, text, 0), near, first, last} {
				plans = append(plans, every(q))
				for _, wrap := range wraps {
					plans = append(plans, every(wrap(q)), api.Plan{Root: wrap(q)})
				}
			}
			for _, pl := range plans {
				if n <= api.MaxTerm {
					holdPlan(t, pl, stats(2))
				} else {
					wantRefused(t, fmt.Sprint("a term of ", n, " bytes"), pl, 2)
				}
			}
		}
	}
}

// P22.1: a leaf of Drive of a field that isn't there, alone and among others.
func TestFieldsOfDrive(t *testing.T) {
	for n := 1; n <= api.MaxFields; n++ {
		for _, f := range []int{0, n - 1, n, n + 1, -1, -n, 256, math.MaxInt, math.MinInt} {
			leaf := api.Leaf{Field: f, Term: "a"}
			for _, drive := range [][]api.Leaf{{leaf}, {leaf, {Term: "b"}}, {{Term: "a"}, {Term: "b"}, leaf}} {
				pl := api.Plan{Root: a, Drive: drive}
				if f >= 0 && f < n {
					holdPlan(t, pl, stats(n))
				} else {
					wantRefused(t, "a field of Drive", pl, n)
				}
			}
		}
	}
}

// P22.1: All and a Drive.
func TestAllAndDrive(t *testing.T) {
	for _, q := range []api.Query{a, all, none} {
		for _, drive := range []string{"0a", "0b", "0a 0a", "1x 0a"} {
			pl := driven(q, drive)
			holdPlan(t, pl, stats(2))
			pl.All = true
			wantRefused(t, "All and a Drive", pl, 2)
		}
		holdPlan(t, api.Plan{Root: q, All: true, Drive: []api.Leaf{}}, stats(2))
		holdPlan(t, api.Plan{Root: q, All: true, Drive: make([]api.Leaf, 0, 5)}, stats(2))
		holdPlan(t, api.Plan{Root: q}, stats(2))
	}
}

// P22.1: several reasons at a time, and statistics of every kind: of them only the number of Sums is asked.
func TestRefusedWhateverTheStatistics(t *testing.T) {
	m := newMaker(224)
	for range 3000 {
		fields := 1 + m.Intn(api.MaxFields)
		pl := m.plan(fields, 20)
		st := m.stats(fields)
		holdPlan(t, pl, st)
		switch m.Intn(4) {
		case 0:
			pl.Root = pickOf(m, wraps...)(pickOf(m, append(badOnes(), manyTermOnes()...)...))
		case 1:
			pl.Drive = slices.Concat(pl.Drive, []api.Leaf{{Field: fields, Term: "a"}})
		case 2:
			pl.Drive = slices.Concat([]api.Leaf{{Term: longest + "w"}}, pl.Drive)
		case 3:
			pl.All, pl.Drive = true, slices.Concat(pl.Drive, []api.Leaf{{Term: "a"}})
		}
		wantRefused(t, "a plan that was spoilt", pl, fields)
	}
}
