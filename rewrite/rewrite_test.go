package rewrite_test

import (
	"math"
	"testing"

	"concord/api"
	"concord/rewrite"
)

// row is a query with its score form and its match form.
type row struct {
	q, score, match api.Query
}

// holdRow holds a query against its forms as they are told: alone, bare, times a weight that is 1, and where nothing counts.
func holdRow(t *testing.T, r row) {
	t.Helper()
	bare := r.match
	switch bare.Kind {
	case api.QNone, api.QTerm, api.QPhrase, api.QNot:
	default:
		bare = fixed(0, bare)
	}
	seven := fixed(7, r.match)
	if r.match.Kind == api.QNone {
		seven = none
	}
	for _, x := range []struct{ q, want api.Query }{
		{r.q, r.score}, {boost(1, r.q), r.score}, {most(none, r.q), r.score}, {list(0, " ", r.q), r.score}, {list(0, "+", r.q), r.score},
		{fixed(7, r.q), seven}, {boost(7, fixed(1, r.q)), seven}, {boost(0, r.q), bare}, {fixed(0, r.q), bare}, {boost(1<<32, boost(1<<32, r.q)), bare},
	} {
		if n, err := rewrite.Normal(x.q); err != nil || !alike(n, x.want) {
			t.Errorf("Normal(%s) is %s, %v, want %s", brief(x.q), brief(n), err, brief(x.want))
		}
		holdQuery(t, x.q)
	}
	if n, err := rewrite.Bare(r.q); err != nil || !alike(n, bare) {
		t.Errorf("Bare(%s) is %s, %v, want %s", brief(r.q), brief(n), err, brief(bare))
	}
	if rewrite.Is(r.q) != alike(r.q, r.score) {
		t.Errorf("Is(%s) is %v", brief(r.q), rewrite.Is(r.q))
	}
	for _, n := range []api.Query{r.score, bare, seven} {
		if !rewrite.Is(n) {
			t.Errorf("Is(%s) is false", brief(n))
		}
	}
	for _, wrap := range wraps {
		holdQuery(t, wrap(r.q))
	}
}

// P18.1: the chapter's examples.
func TestExamples(t *testing.T) {
	for _, x := range []struct{ q, want api.Query }{
		{boost(4, a), term(0, "a", 8)}, {boost(4, all), fixed(4, all)}, {fixed(1, a), fixed(1, a0)}, {fixed(1, all), all}, {boost(0, a), a0}, {boost(0, shoulds(0, a, b)), fixed(0, shoulds(1, a0, b0))},
		{shoulds(0, a, shoulds(1, b, c)), shoulds(1, a, b, c)}, {musts(a, list(0, "+ ", b, c)), list(0, "++ ", a, b, c)}, {shoulds(2, a, b), musts(a, b)},
		{list(0, "-", a), none}, {list(0, "+-", all, a), list(0, "+-", all, a0)}, {list(0, "+-", idle, a), not(a0)}, {musts(not(a), b), list(0, "+-", b, a0)},
		{list(0, "+-", a, not(b)), musts(a, b0)}, {list(0, "+-", a, shoulds(1, b, c)), list(0, "+--", a, b0, c0)}, {list(0, "+ ", a, all), musts(a, all)}, {shoulds(2, a, b, all), list(1, "+  ", all, a, b)},
		{not(not(a)), a0}, {not(none), idle}, {fixed(3, not(not(a))), fixed(3, a0)}, {most(a, most(b, none)), most(a, b)}, {fixed(3, most(a, b)), fixed(3, shoulds(1, a0, b0))},
		{list(0, "+ ", idle, a), list(0, "+ ", idle, a)}, {fixed(7, list(0, "+ ", idle, a)), fixed(7, all)},
		{boost(2, phrase(0, 0, 6, "t")), term(0, "t", 12)},
	} {
		n, err := rewrite.Normal(x.q)
		if err != nil || !alike(n, x.want) {
			t.Errorf("Normal(%s) is %s, %v, want %s", brief(x.q), brief(n), err, brief(x.want))
		}
		if !rewrite.Is(x.want) || rewrite.Is(x.q) != alike(x.q, x.want) {
			t.Errorf("Is(%s) is %v, Is(%s) is %v", brief(x.q), rewrite.Is(x.q), brief(x.want), rewrite.Is(x.want))
		}
		holdQuery(t, x.q)
	}
}

// P18.1: every kind of query but lists, in both forms.
func TestKinds(t *testing.T) {
	two, bare := phrase(3, 2, 9, "x y"), phrase(3, 2, 0, "x y")
	a15 := term(api.MaxFields-1, "", math.MaxUint64)
	for _, r := range []row{
		{none, none, none}, {all, all, all}, {has(0), has(0), has(0)}, {has(15), has(15), has(15)},
		{a, a, a0}, {a0, a0, a0}, {a15, a15, term(15, "", 0)},
		{two, two, bare}, {bare, bare, bare}, {phrase(2, api.MaxNumber, 6, "t"), term(2, "t", 6), term(2, "t", 0)}, {phrase(0, 0, 0, "t"), term(0, "t", 0), term(0, "t", 0)}, {phrase(0, 1, 5, "t t"), phrase(0, 1, 5, "t t"), phrase(0, 1, 0, "t t")},
		{boost(5, none), none, none}, {boost(5, all), fixed(5, all), all}, {boost(5, has(1)), fixed(5, has(1)), has(1)}, {boost(5, a), term(0, "a", 10), a0}, {boost(5, two), phrase(3, 2, 45, "x y"), bare}, {boost(5, phrase(0, 0, 2, "a")), term(0, "a", 10), a0},
		{boost(1, all), all, all}, {boost(1, has(1)), has(1), has(1)}, {boost(0, none), none, none}, {boost(0, all), idle, all}, {boost(0, has(1)), fixed(0, has(1)), has(1)}, {boost(0, two), bare, bare}, {boost(0, not(a)), not(a0), not(a0)},
		{boost(5, fixed(3, a)), fixed(15, a0), a0}, {boost(5, fixed(0, a)), a0, a0}, {boost(5, not(a)), not(a0), not(a0)}, {boost(5, most(a, all)), most(term(0, "a", 10), fixed(5, all)), all},
		{boost(5, list(0, "++ -", a, all, b, c)), list(0, "++ -", term(0, "a", 10), fixed(5, all), term(0, "b", 15), c0), list(0, "+-", a0, c0)},
		{fixed(5, none), none, none}, {fixed(5, all), fixed(5, all), all}, {fixed(5, has(1)), fixed(5, has(1)), has(1)}, {fixed(5, a), fixed(5, a0), a0}, {fixed(5, two), fixed(5, bare), bare}, {fixed(5, not(a)), fixed(5, not(a0)), not(a0)},
		{fixed(1, none), none, none}, {fixed(1, all), all, all}, {fixed(1, has(1)), has(1), has(1)}, {fixed(1, a), fixed(1, a0), a0}, {fixed(1, two), fixed(1, bare), bare}, {fixed(1, not(a)), fixed(1, not(a0)), not(a0)},
		{fixed(0, none), none, none}, {fixed(0, all), idle, all}, {fixed(0, has(1)), fixed(0, has(1)), has(1)}, {fixed(0, a), a0, a0}, {fixed(0, two), bare, bare}, {fixed(0, not(a)), not(a0), not(a0)},
		{fixed(5, boost(3, a)), fixed(5, a0), a0}, {fixed(5, fixed(3, a)), fixed(5, a0), a0}, {fixed(1, fixed(3, all)), all, all}, {fixed(5, phrase(0, 0, 2, "a")), fixed(5, a0), a0},
		{fixed(0, musts(a, b)), fixed(0, musts(a0, b0)), musts(a0, b0)}, {fixed(1, musts(a, b)), fixed(1, musts(a0, b0)), musts(a0, b0)}, {fixed(5, list(0, "+ ", a, b)), fixed(5, a0), a0},
		{not(none), idle, all}, {not(all), none, none}, {not(a), not(a0), not(a0)}, {not(has(1)), not(has(1)), not(has(1))}, {not(two), not(bare), not(bare)}, {not(boost(3, a)), not(a0), not(a0)}, {not(fixed(3, all)), none, none}, {not(fixed(3, none)), idle, all},
		{not(not(none)), none, none}, {not(not(all)), idle, all}, {not(not(a)), a0, a0}, {not(not(has(1))), fixed(0, has(1)), has(1)}, {not(not(two)), bare, bare}, {not(not(not(a))), not(a0), not(a0)}, {not(not(musts(a, b))), fixed(0, musts(a0, b0)), musts(a0, b0)},
		{not(most(a, b)), not(shoulds(1, a0, b0)), not(shoulds(1, a0, b0))}, {not(most(none, none)), idle, all}, {not(most(a, all)), none, none}, {not(fixed(2, not(a))), a0, a0},
		{most(none), none, none}, {most(all), all, all}, {most(a), a, a0}, {most(none, a, none), a, a0}, {most(none, none), none, none}, {most(a, a), most(a, a), shoulds(1, a0, a0)}, {most(a, none, b), most(a, b), shoulds(1, a0, b0)},
		{most(a, most(b, c), d), most(a, b, c, d), shoulds(1, a0, b0, c0, d0)}, {most(most(most(a, b)), most(none, most(c))), most(a, b, c), shoulds(1, a0, b0, c0)}, {most(boost(2, most(a, b)), c), most(term(0, "a", 4), term(0, "b", 6), c), shoulds(1, a0, b0, c0)},
		{most(a, all), most(a, all), all}, {most(idle, a), most(idle, a), all}, {most(not(a), b), most(not(a0), b), shoulds(1, not(a0), b0)}, {most(fixed(2, most(a, b)), c), most(fixed(2, shoulds(1, a0, b0)), c), shoulds(1, a0, b0, c0)},
		{most(shoulds(1, a, b), c), most(shoulds(1, a, b), c), shoulds(1, a0, b0, c0)}, {most(list(0, "+ ", a, b), c), most(list(0, "+ ", a, b), c), shoulds(1, a0, c0)}, {most(shoulds(3, a, b), list(0, "-", c)), none, none},
	} {
		holdRow(t, r)
	}
}

// P18.1, steps 1 and 5: a need that goes down by an Always, above, at and below the number of shoulds, and lists that begin again.
func TestNeeds(t *testing.T) {
	for _, r := range []row{
		// Without an Always.
		{shoulds(0, a), a, a0}, {shoulds(1, a), a, a0}, {shoulds(2, a), none, none}, {shoulds(api.MaxNumber, a), none, none},
		{shoulds(0, a, b), shoulds(1, a, b), shoulds(1, a0, b0)}, {shoulds(1, a, b), shoulds(1, a, b), shoulds(1, a0, b0)}, {shoulds(2, a, b), musts(a, b), musts(a0, b0)}, {shoulds(3, a, b), none, none},
		{shoulds(2, a, b, c), shoulds(2, a, b, c), shoulds(2, a0, b0, c0)}, {shoulds(3, a, b, c), musts(a, b, c), musts(a0, b0, c0)}, {shoulds(4, a, b, c), none, none},
		{list(1, "+ ", a, b), musts(a, b), musts(a0, b0)}, {list(2, "+ ", a, b), none, none}, {list(1, "+  ", a, b, c), list(1, "+  ", a, b, c), list(1, "+  ", a0, b0, c0)}, {list(2, "+  -", a, b, c, d), list(0, "+++-", a, b, c, d0), list(0, "+++-", a0, b0, c0, d0)},
		{list(1, "+", a), none, none}, {list(0, "-", a), none, none}, {list(1, "-", a), none, none}, {list(0, "--", a, none), none, none}, {list(0, "+", a), a, a0}, {list(1, " -", a, b), list(0, "+-", a, b0), list(0, "+-", a0, b0)},
		// An Always takes the need down, and never below 0.
		{shoulds(1, a, all), list(0, "+ ", all, a), all}, {shoulds(2, a, all), musts(all, a), a0}, {shoulds(3, a, all), none, none}, {shoulds(0, a, all), list(0, "+ ", all, a), all},
		{shoulds(1, all, a, all), list(0, "++ ", all, all, a), all}, {shoulds(2, all, a, all), list(0, "++ ", all, all, a), all}, {shoulds(3, all, a, all), musts(all, all, a), a0}, {shoulds(4, all, a, all), none, none},
		{shoulds(1, all), all, all}, {shoulds(2, all), none, none}, {shoulds(2, all, all), musts(all, all), all}, {shoulds(3, all, all), none, none},
		{shoulds(2, idle, a, b), shoulds(1, a, b), shoulds(1, a0, b0)}, {shoulds(2, idle, a), a, a0}, {shoulds(1, idle, a), list(0, "+ ", idle, a), all}, {shoulds(3, idle, idle, a, b), shoulds(1, a, b), shoulds(1, a0, b0)},
		{shoulds(2, fixed(4, all), a, b), list(1, "+  ", fixed(4, all), a, b), shoulds(1, a0, b0)}, {boost(3, shoulds(2, a, all, b)), list(1, "+  ", fixed(3, all), term(0, "a", 6), term(0, "b", 9)), shoulds(1, a0, b0)},
		{list(1, "+ -", a, all, b), list(0, "++-", a, all, b0), list(0, "+-", a0, b0)}, {list(0, "+ ", a, idle), a, a0}, {list(0, "+ ", a, fixed(9, all)), musts(a, fixed(9, all)), a0},
		// An Always among the musts or the nots doesn't.
		{list(1, "+ ", all, a), musts(all, a), a0}, {list(2, "+ ", all, a), none, none}, {list(2, "+  ", all, a, b), musts(all, a, b), musts(a0, b0)}, {list(1, "  -", a, b, not(all)), shoulds(1, a, b), shoulds(1, a0, b0)}, {list(2, "  -", a, b, not(none)), none, none},
		// What never matches isn't one of the shoulds.
		{shoulds(2, a, none, b), musts(a, b), musts(a0, b0)}, {shoulds(1, a, none), a, a0}, {shoulds(1, none), none, none}, {shoulds(0, none), none, none}, {list(0, "+ ", a, none), a, a0}, {list(1, "+ ", a, none), none, none},
		// One should more, by the kids of another list.
		{shoulds(1, shoulds(1, a, b), c), shoulds(1, a, b, c), shoulds(1, a0, b0, c0)}, {shoulds(2, shoulds(1, a, b), c), musts(shoulds(1, a, b), c), musts(shoulds(1, a0, b0), c0)}, {shoulds(2, shoulds(1, a, b), c, d), shoulds(2, shoulds(1, a, b), c, d), shoulds(2, shoulds(1, a0, b0), c0, d0)},
		{shoulds(1, shoulds(1, a, b)), shoulds(1, a, b), shoulds(1, a0, b0)}, {shoulds(2, all, shoulds(1, a, b), c), list(1, "+   ", all, a, b, c), shoulds(1, a0, b0, c0)}, {shoulds(1, shoulds(2, a, b, c), d), shoulds(1, shoulds(2, a, b, c), d), shoulds(1, shoulds(2, a0, b0, c0), d0)},
		{list(1, "+ ", d, shoulds(1, a, b)), list(1, "+  ", d, a, b), list(1, "+  ", d0, a0, b0)}, {list(0, "+ ", d, shoulds(1, a, b)), list(0, "+  ", d, a, b), d0}, {list(0, "+ ", d, shoulds(2, a, b, c)), list(0, "+ ", d, shoulds(2, a, b, c)), d0},
		// What begins again: lists that waited for the need to be 0, nots and lists among the shoulds.
		{list(1, "+ ", list(0, "+ -", a, b, c), d), list(0, "++ -", a, d, b, c0), list(0, "++-", a0, d0, c0)}, {list(1, "+  ", list(0, "+ ", a, b), c, d), list(1, "+  ", list(0, "+ ", a, b), c, d), list(1, "+  ", a0, c0, d0)},
		{list(1, "+ -", list(0, "+ -", a, b, c), d, has(0)), list(0, "++ --", a, d, b, c0, has(0)), list(0, "++--", a0, d0, c0, has(0))}, {list(1, "+ ", a, list(0, "+ -", b, c, d)), list(0, "++ -", a, b, c, d0), list(0, "++-", a0, b0, d0)},
		{list(1, "+ ", a, not(b)), list(0, "+-", a, b0), list(0, "+-", a0, b0)}, {shoulds(2, a, not(b)), list(0, "+-", a, b0), list(0, "+-", a0, b0)}, {shoulds(1, not(b)), not(b0), not(b0)}, {shoulds(2, not(a), not(b)), not(shoulds(1, a0, b0)), not(shoulds(1, a0, b0))},
		{list(1, " -", not(a), b), not(shoulds(1, a0, b0)), not(shoulds(1, a0, b0))}, {list(1, " -", not(a), not(b)), list(0, "+-", b0, a0), list(0, "+-", b0, a0)},
		{list(2, "  -", a, list(0, "+-", b, c), d), list(0, "++--", a, b, c0, d0), list(0, "++--", a0, b0, c0, d0)}, {list(1, "+ -", list(1, "+ ", a, b), c, not(d)), musts(a, b, d0, c), musts(a0, b0, d0, c0)},
		{list(1, "+ ", list(0, "+ ", idle, a), b), list(0, "+ ", b, a), b0}, {shoulds(2, all, list(0, "+ ", idle, a)), list(0, "+ ", all, a), all}, {shoulds(2, idle, list(0, "+ ", idle, a)), list(0, "+ ", idle, a), all},
		{list(1, "+ ", none, a), none, none}, {list(1, " -", a, all), none, none}, {shoulds(2, a, musts(b, none)), none, none},
	} {
		holdRow(t, r)
	}
}

// P18.1, steps 2 and 3: what is brought in as a must.
func TestMusts(t *testing.T) {
	for _, r := range []row{
		{musts(none), none, none}, {musts(a, none), none, none}, {list(0, "+ ", none, a), none, none}, {list(0, "+-", none, a), none, none}, {musts(all), all, all}, {musts(all, all), musts(all, all), all}, {musts(a, all), musts(a, all), a0}, {musts(idle, a, idle), a, a0}, {musts(idle), idle, all}, {musts(idle, idle), idle, all},
		{musts(all, idle), all, all}, {musts(fixed(3, all), a), musts(fixed(3, all), a), a0}, {list(0, "+ ", all, a), list(0, "+ ", all, a), all}, {list(0, "+ -", all, a, b), list(0, "+ -", all, a, b0), not(b0)}, {musts(fixed(0, has(1)), a), musts(fixed(0, has(1)), a), musts(has(1), a0)},
		// A not.
		{musts(not(a)), not(a0), not(a0)}, {musts(a, not(b)), list(0, "+-", a, b0), list(0, "+-", a0, b0)}, {musts(not(a), not(b)), not(shoulds(1, a0, b0)), not(shoulds(1, a0, b0))}, {list(0, "+-", not(a), b), not(shoulds(1, a0, b0)), not(shoulds(1, a0, b0))}, {list(0, "+ ", not(a), b), list(0, "+ -", idle, b, a0), not(a0)},
		{musts(not(shoulds(1, a, b)), c), list(0, "+--", c, a0, b0), list(0, "+--", c0, a0, b0)}, {musts(not(shoulds(1, not(a), b)), c), list(0, "++-", a0, c, b0), list(0, "++-", a0, c0, b0)}, {musts(not(musts(a, b)), c), list(0, "+-", c, musts(a0, b0)), list(0, "+-", c0, musts(a0, b0))}, {musts(not(not(a)), b), musts(a0, b), musts(a0, b0)},
		{musts(not(all), a), none, none}, {musts(not(none), a), a, a0}, {musts(not(none)), idle, all}, {musts(not(shoulds(2, a, b, c)), d), list(0, "+-", d, shoulds(2, a0, b0, c0)), list(0, "+-", d0, shoulds(2, a0, b0, c0))},
		// Lists: of musts, with nots, with shoulds of their own.
		{musts(musts(a, b), c), musts(a, b, c), musts(a0, b0, c0)}, {musts(a, musts(b, musts(c, d))), musts(a, b, c, d), musts(a0, b0, c0, d0)}, {musts(list(0, "+-", a, b), c), list(0, "++-", a, c, b0), list(0, "++-", a0, c0, b0)}, {list(0, "+-", list(0, "+-", a, b), c), list(0, "+--", a, b0, c0), list(0, "+--", a0, b0, c0)},
		{musts(a, list(0, "+ ", b, c)), list(0, "++ ", a, b, c), musts(a0, b0)}, {list(0, "+ ", list(0, "+ ", a, b), c), list(0, "+  ", a, b, c), a0}, {list(0, "++ -", list(0, "+ -", a, b, c), list(0, "+ -", b, c, d), d, a), list(0, "++   ---", a, b, b, c, d, c0, d0, a0), list(0, "++---", a0, b0, c0, d0, a0)},
		{list(1, "+  ", list(0, "+ ", a, b), c, d), list(1, "+  ", list(0, "+ ", a, b), c, d), list(1, "+  ", a0, c0, d0)}, {list(1, "+  ", list(0, "+-", a, b), c, d), list(1, "+  -", a, c, d, b0), list(1, "+  -", a0, c0, d0, b0)}, {list(1, "+  -", musts(a, b), c, d, has(0)), list(1, "++  -", a, b, c, d, has(0)), list(1, "++  -", a0, b0, c0, d0, has(0))},
		{musts(shoulds(1, a, b), c), musts(shoulds(1, a, b), c), musts(shoulds(1, a0, b0), c0)}, {musts(shoulds(1, a, b)), shoulds(1, a, b), shoulds(1, a0, b0)}, {musts(list(1, "+  ", a, b, c), d), musts(list(1, "+  ", a, b, c), d), musts(list(1, "+  ", a0, b0, c0), d0)}, {musts(list(1, "  -", a, b, c), d), musts(list(1, "  -", a, b, c0), d), musts(list(1, "  -", a0, b0, c0), d0)},
		{musts(list(0, "+ ", idle, a), b), list(0, "+ ", b, a), b0}, {musts(list(0, "+ ", idle, a)), list(0, "+ ", idle, a), all}, {musts(list(0, "+ ", idle, a), list(0, "+ ", idle, b)), list(0, "+  ", idle, a, b), all}, {musts(list(0, "+ -", idle, a, b), c), list(0, "+ -", c, a, b0), list(0, "+-", c0, b0)},
		{musts(list(0, "+-", all, a), b), list(0, "++-", all, b, a0), list(0, "+-", b0, a0)}, {musts(list(0, "+-", idle, a), b), list(0, "+-", b, a0), list(0, "+-", b0, a0)}, {musts(most(a, b), c), musts(most(a, b), c), musts(shoulds(1, a0, b0), c0)}, {musts(boost(2, musts(a, b)), c), musts(term(0, "a", 4), term(0, "b", 6), c), musts(a0, b0, c0)},
		{musts(fixed(2, musts(a, b)), c), musts(fixed(2, musts(a0, b0)), c), musts(a0, b0, c0)}, {musts(boost(0, musts(a, b)), c), musts(fixed(0, musts(a0, b0)), c), musts(a0, b0, c0)}, {musts(boost(0, not(a)), c), list(0, "+-", c, a0), list(0, "+-", c0, a0)}, {musts(fixed(2, not(a)), c), musts(fixed(2, not(a0)), c), list(0, "+-", c0, a0)},
		{musts(a, a), musts(a, a), musts(a0, a0)},
	} {
		holdRow(t, r)
	}
}

// P18.1, step 2: what is brought in as a should.
func TestShoulds(t *testing.T) {
	for _, r := range []row{
		{shoulds(1, a, not(b)), shoulds(1, a, not(b0)), shoulds(1, a0, not(b0))}, {shoulds(0, not(a), not(b)), shoulds(1, not(a0), not(b0)), shoulds(1, not(a0), not(b0))}, {list(0, "+ ", a, not(b)), list(0, "+ ", a, not(b0)), a0}, {shoulds(1, a, not(all)), a, a0}, {shoulds(1, a, not(none)), list(0, "+ ", idle, a), all},
		{shoulds(1, a, musts(b, c)), shoulds(1, a, musts(b, c)), shoulds(1, a0, musts(b0, c0))}, {shoulds(1, a, list(0, "+-", b, c)), shoulds(1, a, list(0, "+-", b, c0)), shoulds(1, a0, list(0, "+-", b0, c0))}, {shoulds(1, a, list(0, "+ ", b, c)), shoulds(1, a, list(0, "+ ", b, c)), shoulds(1, a0, b0)},
		{shoulds(0, a, shoulds(0, b, c), d), shoulds(1, a, b, c, d), shoulds(1, a0, b0, c0, d0)}, {shoulds(0, shoulds(0, a, shoulds(0, b, none)), c), shoulds(1, a, b, c), shoulds(1, a0, b0, c0)}, {shoulds(1, a, list(1, "+  ", b, c, d)), shoulds(1, a, list(1, "+  ", b, c, d)), shoulds(1, a0, list(1, "+  ", b0, c0, d0))}, {shoulds(1, a, list(1, "  -", b, c, d)), shoulds(1, a, list(1, "  -", b, c, d0)), shoulds(1, a0, list(1, "  -", b0, c0, d0))},
		{list(0, "+  ", a, shoulds(1, b, c), d), list(0, "+   ", a, b, c, d), a0}, {list(2, "+   ", a, shoulds(1, b, c), d, b), list(2, "+   ", a, shoulds(1, b, c), d, b), list(2, "+   ", a0, shoulds(1, b0, c0), d0, b0)}, {shoulds(1, a, boost(2, shoulds(1, b, c))), shoulds(1, a, term(0, "b", 6), term(1, "c", 10)), shoulds(1, a0, b0, c0)},
		{shoulds(1, a, most(b, c)), shoulds(1, a, most(b, c)), shoulds(1, a0, b0, c0)}, {shoulds(1, a, fixed(2, shoulds(1, b, c))), shoulds(1, a, fixed(2, shoulds(1, b0, c0))), shoulds(1, a0, b0, c0)}, {shoulds(1, a, shoulds(1, b, not(c))), shoulds(1, a, b, not(c0)), shoulds(1, a0, b0, not(c0))}, {shoulds(1, has(0), has(0)), shoulds(1, has(0), has(0)), shoulds(1, has(0), has(0))},
		{list(0, "+ ", idle, shoulds(1, a, b)), list(0, "+  ", idle, a, b), all}, {list(0, "+ ", a, all), musts(a, all), a0}, {list(0, " + ", all, a, b), list(0, "++ ", a, all, b), a0}, {list(0, " -", a, b), list(0, "+-", a, b0), list(0, "+-", a0, b0)}, {list(0, "  -", a, b, c), list(1, "  -", a, b, c0), list(1, "  -", a0, b0, c0)}, {list(0, " -", all, b), list(0, "+-", all, b0), not(b0)}, {list(0, " -", idle, b), not(b0), not(b0)},
	} {
		holdRow(t, r)
	}
}

// P18.1, steps 2, 3 and 7: what is brought in as a not, and lists of nots alone.
func TestNots(t *testing.T) {
	for _, r := range []row{
		{list(0, "+-", a, none), a, a0}, {list(0, "+-", a, all), none, none}, {list(0, "+-", a, boost(3, all)), none, none}, {list(0, "+--", a, b, all), none, none}, {list(0, " -", a, fixed(2, none)), a, a0}, {list(0, "+-", idle, none), idle, all}, {list(0, "+-", all, none), all, all}, {list(0, "+-", all, all), none, none}, {list(0, "+-", a, has(1)), list(0, "+-", a, has(1)), list(0, "+-", a0, has(1))},
		// A not.
		{list(0, "+-", a, not(b)), musts(a, b0), musts(a0, b0)}, {list(0, "+-", a, not(has(1))), musts(a, fixed(0, has(1))), musts(a0, has(1))}, {list(0, "+-", a, not(musts(b, c))), musts(a, fixed(0, musts(b0, c0))), musts(a0, b0, c0)}, {list(0, "+-", a, not(list(0, "+-", b, c))), musts(a, fixed(0, list(0, "+-", b0, c0))), list(0, "++-", a0, b0, c0)}, {list(0, "+-", a, not(shoulds(1, b, c))), musts(a, fixed(0, shoulds(1, b0, c0))), musts(a0, shoulds(1, b0, c0))},
		{list(0, "+-", a, not(list(0, "+ ", b, c))), musts(a, b0), musts(a0, b0)}, {list(0, "+-", a, not(phrase(0, 1, 4, "x y"))), musts(a, phrase(0, 1, 0, "x y")), musts(a0, phrase(0, 1, 0, "x y"))}, {list(0, "+-", a, not(not(b))), list(0, "+-", a, b0), list(0, "+-", a0, b0)}, {list(0, "+-", a, not(all)), a, a0}, {list(0, "+-", a, not(none)), none, none}, {list(0, "+--", a, not(b), not(c)), musts(a, b0, c0), musts(a0, b0, c0)},
		{list(0, "- ", not(a), b), musts(a0, b), musts(a0, b0)}, {list(1, "-  ", not(a), b, c), list(1, "+  ", a0, b, c), list(1, "+  ", a0, b0, c0)}, {list(0, "-+", not(a), idle), a0, a0}, {list(0, "+-", idle, not(musts(a, b))), fixed(0, musts(a0, b0)), musts(a0, b0)}, {list(1, "+-  ", a, not(list(0, "+-", b, c)), d, has(0)), list(1, "++  ", a, fixed(0, list(0, "+-", b0, c0)), d, has(0)), list(1, "++  -", a0, b0, d0, has(0), c0)},
		// Lists.
		{list(0, "+-", a, shoulds(0, b, c)), list(0, "+--", a, b0, c0), list(0, "+--", a0, b0, c0)}, {list(0, "+-", a, shoulds(1, b, shoulds(1, c, d))), list(0, "+---", a, b0, c0, d0), list(0, "+---", a0, b0, c0, d0)}, {list(0, "+-", a, shoulds(1, b, not(c))), list(0, "++-", a, c0, b0), list(0, "++-", a0, c0, b0)}, {list(0, "+-", a, shoulds(1, not(b), not(c))), musts(a, b0, c0), musts(a0, b0, c0)}, {list(0, "+-", a, most(b, c)), list(0, "+--", a, b0, c0), list(0, "+--", a0, b0, c0)},
		{list(0, "+-", a, shoulds(2, b, c, d)), list(0, "+-", a, shoulds(2, b0, c0, d0)), list(0, "+-", a0, shoulds(2, b0, c0, d0))}, {list(0, "+-", a, musts(b, c)), list(0, "+-", a, musts(b0, c0)), list(0, "+-", a0, musts(b0, c0))}, {list(0, "+-", a, list(0, "+-", b, c)), list(0, "+-", a, list(0, "+-", b0, c0)), list(0, "+-", a0, list(0, "+-", b0, c0))}, {list(0, "+-", a, list(0, "+ ", b, c)), list(0, "+-", a, b0), list(0, "+-", a0, b0)}, {list(0, "+-", a, list(1, "+  ", b, c, d)), list(0, "+-", a, list(1, "+  ", b0, c0, d0)), list(0, "+-", a0, list(1, "+  ", b0, c0, d0))},
		{list(0, "+-", a, list(1, "  -", b, c, d)), list(0, "+-", a, list(1, "  -", b0, c0, d0)), list(0, "+-", a0, list(1, "  -", b0, c0, d0))}, {list(0, "+-", a, shoulds(1, b, all)), none, none}, {list(0, "+-", a, shoulds(2, b, all)), list(0, "+-", a, b0), list(0, "+-", a0, b0)}, {list(0, "+-", a, shoulds(3, b, c)), a, a0}, {list(0, "+-", a, list(0, "-", b)), a, a0}, {list(0, "+-", a, shoulds(1, not(list(0, "+-", b, c)), d)), list(0, "++-", a, fixed(0, list(0, "+-", b0, c0)), d0), list(0, "++--", a0, b0, c0, d0)},
		// Nothing but nots.
		{list(0, "+-", idle, a), not(a0), not(a0)}, {list(0, "+--", idle, a, b), not(shoulds(1, a0, b0)), not(shoulds(1, a0, b0))}, {list(0, "+--", idle, a, musts(b, c)), not(shoulds(1, a0, musts(b0, c0))), not(shoulds(1, a0, musts(b0, c0)))}, {musts(not(a), not(b), not(c)), not(shoulds(1, a0, b0, c0)), not(shoulds(1, a0, b0, c0))}, {musts(musts(not(a), not(b)), not(c)), not(shoulds(1, a0, b0, c0)), not(shoulds(1, a0, b0, c0))}, {musts(not(a), musts(not(b), not(c)), d), list(0, "+---", d, a0, b0, c0), list(0, "+---", d0, a0, b0, c0)},
		{not(musts(not(a), not(b))), fixed(0, shoulds(1, a0, b0)), shoulds(1, a0, b0)}, {list(0, "+-", d, musts(not(a), not(b))), musts(d, fixed(0, shoulds(1, a0, b0))), musts(d0, shoulds(1, a0, b0))}, {shoulds(1, d, not(musts(not(a), not(b)))), shoulds(1, d, fixed(0, shoulds(1, a0, b0))), shoulds(1, d0, a0, b0)}, {list(0, "+-", d, not(musts(not(a), not(b)))), list(0, "+--", d, a0, b0), list(0, "+--", d0, a0, b0)},
		{shoulds(1, musts(not(a), not(b)), c), shoulds(1, not(shoulds(1, a0, b0)), c), shoulds(1, not(shoulds(1, a0, b0)), c0)}, {list(0, "+-", idle, shoulds(1, not(a), b)), list(0, "+-", a0, b0), list(0, "+-", a0, b0)}, {list(0, "--", a, b), none, none}, {list(1, "--", a, b), none, none}, {list(0, "+-+-", idle, a, idle, b), not(shoulds(1, a0, b0)), not(shoulds(1, a0, b0))}, {list(0, "+ -", idle, a, b), list(0, "+ -", idle, a, b0), not(b0)}, {list(0, "+ ", idle, idle), idle, all},
	} {
		holdRow(t, r)
	}
}

// P18.1: weights of 0 and 1, and such whose products go over 2^64.
func TestWeights(t *testing.T) {
	for _, x := range []struct{ q, want api.Query }{
		{boost(1<<32+1, boost(1<<32+1, all)), fixed(1<<33+1, all)}, {boost(1<<32+1, term(0, "a", 1<<32+1)), term(0, "a", 1<<33+1)}, {boost(1<<63, a), a0}, {boost(1<<63, b), term(0, "b", 1<<63)}, {boost(math.MaxUint64, boost(math.MaxUint64, a)), a}, {boost(math.MaxUint64, boost(math.MaxUint64, all)), all}, {boost(math.MaxUint64, a), term(0, "a", math.MaxUint64-1)},
		{boost(math.MaxUint64, fixed(math.MaxUint64, all)), all}, {boost(math.MaxUint64, fixed(math.MaxUint64, a)), fixed(1, a0)}, {boost(1<<32, fixed(1<<32, a)), a0}, {boost(1<<32, fixed(1<<32, all)), idle}, {boost(1<<32, boost(1<<32, all)), idle}, {boost(1<<32, boost(1<<32, has(1))), fixed(0, has(1))}, {boost(1<<32, boost(1<<32, none)), none}, {boost(1<<32, boost(1<<32, not(a))), not(a0)},
		{boost(1<<32, boost(1<<32, most(a, b))), fixed(0, shoulds(1, a0, b0))}, {boost(1<<32, most(a, boost(1<<32, most(b, c)))), most(term(0, "a", 1<<33), fixed(0, shoulds(1, b0, c0)))}, {boost(1<<32, musts(a, boost(1<<32, musts(b, c)))), musts(term(0, "a", 1<<33), fixed(0, musts(b0, c0)))}, {boost(1<<32, boost(1<<32, list(0, "+ ", a, b))), a0}, {boost(1<<32, list(0, "+ ", a, boost(1<<32, b))), list(0, "+ ", term(0, "a", 1<<33), b0)},
		{boost(1<<63, phrase(0, 0, 2, "x y")), phrase(0, 0, 0, "x y")}, {boost(1<<63, phrase(0, 0, 3, "x y")), phrase(0, 0, 1<<63, "x y")}, {boost(3, phrase(0, 0, math.MaxUint64, "x")), term(0, "x", math.MaxUint64-2)}, {boost(3, boost(12297829382473034411, a)), term(0, "a", 2)}, {boost(3, boost(12297829382473034411, all)), all}, {boost(3, fixed(12297829382473034411, has(2))), has(2)},
		{boost(1, boost(1, all)), all}, {boost(1, a), a}, {fixed(math.MaxUint64, a), fixed(math.MaxUint64, a0)}, {fixed(2, boost(1<<63, boost(2, a))), fixed(2, a0)}, {shoulds(2, boost(1<<32, fixed(1<<32, all)), a, b), shoulds(1, a, b)}, {boost(2, shoulds(2, fixed(1<<63, all), a, b)), shoulds(1, term(0, "a", 4), term(0, "b", 6))}, {boost(2, musts(fixed(1<<63, all), a)), term(0, "a", 4)},
	} {
		n, err := rewrite.Normal(x.q)
		if err != nil || !alike(n, x.want) {
			t.Errorf("Normal(%s) is %s, %v, want %s", brief(x.q), brief(n), err, brief(x.want))
		}
		if !rewrite.Is(x.want) {
			t.Errorf("Is(%s) is false", brief(x.want))
		}
		for _, wrap := range wraps {
			holdQuery(t, wrap(x.q))
		}
	}
}

// P18.1: queries that aren't good, or aren't plain, alone and within others, where they would count and where not.
func TestRefused(t *testing.T) {
	for _, q := range append(badOnes(), manyTermOnes()...) {
		for _, wrap := range wraps {
			wantRefused(t, wrap(q))
		}
		for _, within := range []api.Query{list(0, "+-", none, q), list(2, " -", all, q), boost(0, not(q)), fixed(0, most(none, q)), list(9, "+", q), list(0, " +", q, none)} {
			wantRefused(t, within)
		}
	}
	// The last field is one that there may be; the lists that a kind doesn't have may have room.
	holdQuery(t, term(api.MaxFields-1, "a", 1))
	empty := api.Query{Kind: api.QAll, Terms: []string{}, Offs: make([]int, 0, 2), Occur: []int{}, Kids: make([]api.Query, 0, 2)}
	if n := mustNormal(t, empty); !alike(n, all) || !rewrite.Is(empty) {
		t.Errorf("Normal(%s) is %s, Is is %v", brief(empty), brief(n), rewrite.Is(empty))
	}
}

// smallKids are queries of every kind that the list's rule looks at.
func smallKids() []api.Query {
	return []api.Query{
		none, all, idle, a, not(b), not(shoulds(1, a, not(c))), list(0, "+-", b, c), list(0, "+ ", a, c), shoulds(1, b, not(d)), shoulds(2, a, b, c),
		fixed(3, all), has(1), musts(b, c), list(0, "+-", idle, d), list(0, "+ ", idle, d), musts(not(a), not(d)), most(a, has(1)), fixed(2, not(a)), boost(0, musts(a, b)), phrase(0, 0, 4, "x"),
	}
}

// eachList goes over all lists of so many kids of a choice, in every place and with every need up to 3.
func eachList(count int, choice []api.Query, hold func(q api.Query)) {
	var add func(signs string, kids []api.Query)
	add = func(signs string, kids []api.Query) {
		if len(kids) == count {
			for n := range 4 {
				hold(list(n, signs, kids...))
			}
			return
		}
		for _, kid := range choice {
			for _, sign := range []string{" ", "+", "-"} {
				add(signs+sign, append(kids[:len(kids):len(kids)], kid))
			}
		}
	}
	add("", nil)
}

// P18.1: all lists of one, two and three such kids, in both forms.
func TestSmallLists(t *testing.T) {
	hold := func(q api.Query) { holdQuery(t, q) }
	eachList(1, smallKids(), hold)
	eachList(2, smallKids(), hold)
	eachList(3, smallKids()[:9], hold)
}

// P18.1: every kind in every kind in every kind.
func TestNestedKinds(t *testing.T) {
	for _, kid := range append(smallKids()[:11], has(2), phrase(0, 0, 4, "x"), phrase(1, 2, 4, "x y")) {
		for _, one := range wraps {
			for _, two := range wraps {
				for _, three := range wraps {
					holdQuery(t, one(two(three(kid))))
				}
			}
		}
	}
}

// P18.1: many made queries.
func TestMadeQueries(t *testing.T) {
	m := newMaker(181)
	met := kinds{}
	for i := range 20000 {
		weight := m.small
		if i%3 == 0 {
			weight = m.weight
		}
		q := m.within(25).query(weight)
		holdQuery(t, q)
		n := mustNormal(t, q)
		met.note("normal already", rewrite.Is(q))
		met.note("none", n.Kind == api.QNone)
		met.note("list", n.Kind == api.QList)
		met.note("max", n.Kind == api.QMax)
		met.note("not", n.Kind == api.QNot)
		met.note("constant", n.Kind == api.QConst)
	}
	met.wantMany(t, 500, "normal already", "none", "list", "max", "not", "constant")
}
