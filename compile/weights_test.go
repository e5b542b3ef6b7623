package compile_test

import (
	"testing"

	"concord/api"
)

// reweighted is a query with other weights wherever it lies below something of which only counts what matches.
func (m *maker) reweighted(q api.Query, counts bool) api.Query {
	out := q
	switch q.Kind {
	case api.QTerm, api.QPhrase, api.QBoost, api.QConst:
		if !counts {
			out.Weight = m.weight()
		}
	}
	out.Kids = nil
	for i, kid := range q.Kids {
		below := counts && q.Kind != api.QConst && q.Kind != api.QNot
		if q.Kind == api.QList && q.Occur[i] == api.MustNot {
			below = false
		}
		out.Kids = append(out.Kids, m.reweighted(kid, below))
	}
	return out
}

// weigher are queries that have weights at each place, all of them this one.
func weighers() []func(w uint64) api.Query {
	return []func(w uint64) api.Query{
		func(w uint64) api.Query { return term(0, "a", w) },
		func(w uint64) api.Query { return phrase(0, 1, w, "a b") },
		func(w uint64) api.Query { return boost(w, all) },
		func(w uint64) api.Query { return fixed(w, a) },
		func(w uint64) api.Query { return boost(w, fixed(w, boost(w, term(0, "a", w)))) },
		func(w uint64) api.Query {
			return most(term(0, "b", w), list(2, "+ - ", phrase(0, 0, w, "b a"), boost(w, a), c, fixed(w, not(term(0, "a", w)))))
		},
	}
}

// P22.4: rows: below a QConst, a QNot and a must-not no weight is told, elsewhere it is.
func TestWeightsThatDontCount(t *testing.T) {
	deaf := []func(q api.Query) api.Query{
		func(q api.Query) api.Query { return fixed(3, q) },
		func(q api.Query) api.Query { return not(q) },
		func(q api.Query) api.Query { return list(0, "+-", a, q) },
		func(q api.Query) api.Query { return list(0, " -- ", a, b, q, c) },
		func(q api.Query) api.Query { return boost(5, fixed(3, boost(2, q))) },
	}
	plain := []func(q api.Query) api.Query{
		func(q api.Query) api.Query { return q },
		func(q api.Query) api.Query { return boost(2, q) },
		func(q api.Query) api.Query { return most(c, q) },
		func(q api.Query) api.Query { return list(0, "+ ", c, q) },
		func(q api.Query) api.Query { return list(0, "++", c, q) },
		func(q api.Query) api.Query { return list(0, "- +", c, b, q) },
		func(q api.Query) api.Query { return list(1, " +", q, c) },
		func(q api.Query) api.Query { return list(2, "   ", q, c, b) },
	}
	for _, make := range weighers() {
		for _, outer := range plain {
			for _, inner := range plain {
				for _, w := range []uint64{1, 2, 1 << 63} {
					was, is := holdPlan(t, every(outer(inner(make(0)))), stats(1)), holdPlan(t, every(outer(inner(make(w)))), stats(1))
					if alikeProgs(was, is) {
						t.Errorf("of %s the weights aren't told: %s", brief(outer(inner(make(w)))), brief(is))
					}
					for _, wrap := range deaf {
						q, other := outer(wrap(inner(make(0)))), outer(wrap(inner(make(w))))
						was, is := holdPlan(t, every(q), stats(1)), holdPlan(t, every(other), stats(1))
						if !alikeProgs(was, is) {
							t.Errorf("the programs of %s and %s differ: %s and %s", brief(q), brief(other), brief(was), brief(is))
						}
					}
				}
			}
		}
	}
}

// P22.4: over drawn plans.
func TestDrawnWeights(t *testing.T) {
	m := newMaker(225)
	met := kinds{}
	for range 20000 {
		fields := 1 + m.Intn(4)
		pl := m.plan(fields, 40)
		st := m.stats(fields)
		other := pl
		other.Root = m.reweighted(pl.Root, true)
		was, is := mustProgram(t, pl, st), mustProgram(t, other, st)
		if !alikeProgs(was, is) {
			t.Fatalf("the programs of %s and %s differ: %s and %s", brief(pl), brief(other), brief(was), brief(is))
		}
		met.note("other weights", brief(pl.Root) != brief(other.Root))
		// With weights changed all over, it is another program, unless all of them lie where they don't count.
		other.Root = m.reweighted(pl.Root, false)
		met.note("another program", !alikeProgs(was, mustProgram(t, other, st)))
	}
	met.wantMany(t, 2000, "other weights", "another program")
}
