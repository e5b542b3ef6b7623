package rewrite_test

import (
	"fmt"
	"slices"
	"testing"

	"concord/api"
	"concord/rewrite"
)

// pile is a way to put a query into another one, again and again, and what comes out: the score form and the match form of the whole, behind n times.
type pile struct {
	name         string
	seed         api.Query
	wrap         func(q api.Query, i int) api.Query
	score, match func(n int) api.Query
}

// word is the term number i, bareWord the same without a weight.
func word(i int) api.Query     { return term(0, fmt.Sprintf("x%d", i), 3) }
func bareWord(i int) api.Query { return term(0, fmt.Sprintf("x%d", i), 0) }

// up are the terms 0 .. n - 1, by what makes one; down the same from the last to the first.
func up(n int, make func(i int) api.Query) []api.Query {
	var list []api.Query
	for i := range n {
		list = append(list, make(i))
	}
	return list
}

func down(n int, make func(i int) api.Query) []api.Query {
	list := up(n, make)
	slices.Reverse(list)
	return list
}

// placed is a list of musts, shoulds and nots.
func placed(n int, musts, shoulds, nots []api.Query) api.Query {
	return put(put(put(api.Query{Kind: api.QList, N: n}, api.Must, musts), api.Should, shoulds), api.MustNot, nots)
}

func still(q api.Query) func(int) api.Query {
	return func(int) api.Query { return q }
}

// with is queries in one list.
func with(first api.Query, rest ...api.Query) []api.Query {
	return append([]api.Query{first}, rest...)
}

// piles are piles of every kind that becomes flat, or less deep.
func piles() []pile {
	turned := func(n int, even, odd api.Query) api.Query {
		if n%2 == 0 {
			return even
		}
		return odd
	}
	return []pile{
		{"boosts", a, func(q api.Query, _ int) api.Query { return boost(3, q) }, func(n int) api.Query {
			w := uint64(2)
			for range n {
				w *= 3
			}
			return term(0, "a", w)
		}, still(a0)},
		{"boosts of 1", most(a, b), func(q api.Query, _ int) api.Query { return boost(1, q) }, still(most(a, b)), still(shoulds(1, a0, b0))},
		{"boosts down to 0", most(a, b), func(q api.Query, _ int) api.Query { return boost(2, q) }, still(fixed(0, shoulds(1, a0, b0))), still(shoulds(1, a0, b0))},
		{"constants", a, func(q api.Query, _ int) api.Query { return fixed(9, q) }, still(fixed(9, a0)), still(a0)},
		{"nots", a, func(q api.Query, _ int) api.Query { return not(q) }, func(n int) api.Query { return turned(n, a0, not(a0)) }, func(n int) api.Query { return turned(n, a0, not(a0)) }},
		{"lists of one should", a, func(q api.Query, _ int) api.Query { return shoulds(0, q) }, still(a), still(a0)},
		{"lists of one must", a, func(q api.Query, _ int) api.Query { return musts(q) }, still(a), still(a0)},
		{"lists of one should that is a not", not(a), func(q api.Query, _ int) api.Query { return shoulds(1, q) }, still(not(a0)), still(not(a0))},
		{"maxima", a, func(q api.Query, i int) api.Query { return most(q, word(i)) }, func(n int) api.Query { return most(with(a, up(n, word)...)...) }, func(n int) api.Query { return shoulds(1, with(a0, up(n, bareWord)...)...) }},
		{"maxima behind", a, func(q api.Query, i int) api.Query { return most(none, word(i), q) }, func(n int) api.Query { return most(append(down(n, word), a)...) }, func(n int) api.Query { return shoulds(1, append(down(n, bareWord), a0)...) }},
		{"shoulds", a, func(q api.Query, i int) api.Query { return shoulds(0, q, word(i)) }, func(n int) api.Query { return shoulds(1, with(a, up(n, word)...)...) }, func(n int) api.Query { return shoulds(1, with(a0, up(n, bareWord)...)...) }},
		{"shoulds behind", a, func(q api.Query, i int) api.Query { return shoulds(1, word(i), q) }, func(n int) api.Query { return shoulds(1, append(down(n, word), a)...) }, func(n int) api.Query { return shoulds(1, append(down(n, bareWord), a0)...) }},
		{"shoulds beside an idle one", shoulds(1, a, b), func(q api.Query, i int) api.Query { return shoulds(2, idle, q, word(i)) }, func(n int) api.Query { return shoulds(1, with(a, with(b, up(n, word)...)...)...) }, func(n int) api.Query { return shoulds(1, with(a0, with(b0, up(n, bareWord)...)...)...) }},
		{"musts", a, func(q api.Query, i int) api.Query { return musts(q, word(i)) }, func(n int) api.Query { return musts(with(a, up(n, word)...)...) }, func(n int) api.Query { return musts(with(a0, up(n, bareWord)...)...) }},
		{"musts behind", a, func(q api.Query, i int) api.Query { return musts(word(i), q) }, func(n int) api.Query { return musts(append(down(n, word), a)...) }, func(n int) api.Query { return musts(append(down(n, bareWord), a0)...) }},
		{"lists that begin again", a, func(q api.Query, i int) api.Query { return list(1, "+ ", q, word(i)) }, func(n int) api.Query { return musts(with(a, up(n, word)...)...) }, func(n int) api.Query { return musts(with(a0, up(n, bareWord)...)...) }},
		{"lists that begin again, behind", a, func(q api.Query, i int) api.Query { return list(1, "+ ", word(i), q) }, func(n int) api.Query { return musts(append(down(n, word), a)...) }, func(n int) api.Query { return musts(append(down(n, bareWord), a0)...) }},
		{"lists that waited", list(0, "+ ", a, b), func(q api.Query, i int) api.Query { return list(1, "+ ", q, word(i)) }, func(n int) api.Query { return placed(0, with(a, up(n, word)...), with(b), nil) }, func(n int) api.Query { return musts(with(a0, up(n, bareWord)...)...) }},
		{"musts with shoulds", a, func(q api.Query, i int) api.Query { return list(0, "+ ", q, word(i)) }, func(n int) api.Query { return placed(0, with(a), up(n, word), nil) }, still(a0)},
		{"shoulds beside what counts nothing", list(0, "+ ", idle, a), func(q api.Query, i int) api.Query { return list(0, "+ ", q, word(i)) }, func(n int) api.Query { return placed(0, with(idle), with(a, up(n, word)...), nil) }, still(all)},
		{"musts with nots", a, func(q api.Query, i int) api.Query { return list(0, "-+", word(i), q) }, func(n int) api.Query { return placed(0, with(a), nil, up(n, bareWord)) }, func(n int) api.Query { return placed(0, with(a0), nil, up(n, bareWord)) }},
		{"musts with shoulds and nots", a, func(q api.Query, i int) api.Query { return list(0, "+ -", q, word(i), word(i)) }, func(n int) api.Query { return placed(0, with(a), up(n, word), up(n, bareWord)) }, func(n int) api.Query { return placed(0, with(a0), nil, up(n, bareWord)) }},
		{"nots alone", not(a), func(q api.Query, i int) api.Query { return list(0, "+-", q, word(i)) }, func(n int) api.Query { return not(shoulds(1, with(a0, up(n, bareWord)...)...)) }, func(n int) api.Query { return not(shoulds(1, with(a0, up(n, bareWord)...)...)) }},
		{"nots alone, behind", not(a), func(q api.Query, i int) api.Query { return musts(not(word(i)), q) }, func(n int) api.Query { return not(shoulds(1, append(down(n, bareWord), a0)...)) }, func(n int) api.Query { return not(shoulds(1, append(down(n, bareWord), a0)...)) }},
		{"nots of lists of nots", not(a), func(q api.Query, i int) api.Query { return musts(not(word(i)), not(shoulds(1, b, not(q)))) }, nestedNots, nestedNots},
		{"nots in nots", shoulds(1, a, b), func(q api.Query, i int) api.Query { return not(musts(not(word(i)), not(q))) }, func(n int) api.Query { return fixed(0, shoulds(1, append(down(n, bareWord), a0, b0)...)) }, func(n int) api.Query { return shoulds(1, append(down(n, bareWord), a0, b0)...) }},
	}
}

// nestedNots is what NOT (b OR NOT (..)) comes to, beside nots of terms: b stands among the nots once for each time.
func nestedNots(n int) api.Query {
	var list []api.Query
	for i := n - 1; i >= 0; i-- {
		list = append(list, bareWord(i), b0)
	}
	return not(shoulds(1, append(list, a0)...))
}

// piled is a pile of n times.
func (p pile) piled(n int) api.Query {
	q := p.seed
	for i := range n {
		q = p.wrap(q, i)
	}
	return q
}

// P18.1 and P18.3: queries nested far above MaxNest, up to what is promised.
func TestDeepQueries(t *testing.T) {
	for _, p := range piles() {
		for _, n := range []int{1, 2, 3, 10, 64, 65, 16000} {
			q := p.piled(n)
			if n < 60 {
				holdQuery(t, q)
			}
			// So many boosts of 2 come to 2^64.
			if n >= 64 || p.name != "boosts down to 0" {
				holdDeep(t, p, n, q)
			}
		}
	}
}

// holdDeep holds a pile against what it comes to.
func holdDeep(t *testing.T, p pile, n int, q api.Query) {
	t.Helper()
	score, match := p.score(n), p.match(n)
	if got, err := rewrite.Normal(q); err != nil || !alike(got, score) {
		t.Fatalf("%s, %d of them: Normal is %s, %v, want %s", p.name, n, brief(got), err, brief(score))
	}
	if got, err := rewrite.Normal(fixed(7, q)); err != nil || !alike(got, fixed(7, match)) {
		t.Fatalf("%s, %d of them: Normal in a constant is %s, %v, want %s", p.name, n, brief(got), err, brief(fixed(7, match)))
	}
	if got, err := rewrite.Bare(q); err != nil || !alike(got, modelFix(match, 0)) {
		t.Fatalf("%s, %d of them: Bare is %s, %v", p.name, n, brief(got), err)
	}
	if !rewrite.Is(score) || !rewrite.Is(fixed(7, match)) || rewrite.Is(q) != alike(q, score) {
		t.Fatalf("%s, %d of them: Is is %v, %v and %v", p.name, n, rewrite.Is(score), rewrite.Is(fixed(7, match)), rewrite.Is(q))
	}
}

// P18.1: queries nested as deep as is promised that stay as deep, good and not.
func TestDeepestQueries(t *testing.T) {
	for name, wrap := range map[string]func(q api.Query) api.Query{
		"shoulds": func(q api.Query) api.Query { return shoulds(2, q, b0, c0) },
		"nots":    func(q api.Query) api.Query { return list(0, "+-", b0, q) },
		"musts":   func(q api.Query) api.Query { return list(1, "+  ", q, b0, c0) },
		"by turns": func(q api.Query) api.Query {
			if q.Kind == api.QList && q.Occur[0] == api.Must {
				return shoulds(1, b0, q)
			}
			return musts(b0, q)
		},
	} {
		q, bad := a0, api.Query{Kind: api.QPrefix, Text: "a"}
		for range 1<<16 - 4 {
			q, bad = wrap(q), wrap(bad)
		}
		if got, err := rewrite.Normal(q); err != nil || !alike(got, q) || !rewrite.Is(q) {
			t.Errorf("%s: Normal is %s, %v", name, brief(got), err)
		}
		if got, err := rewrite.Bare(q); err != nil || !alike(got, fixed(0, q)) {
			t.Errorf("%s: Bare is %s, %v", name, brief(got), err)
		}
		if _, err := rewrite.Normal(bad); err != api.ErrNode {
			t.Errorf("%s: Normal of a multi-term leaf: %v", name, err)
		}
		if _, err := rewrite.Bare(bad); err != api.ErrNode || rewrite.Is(bad) {
			t.Errorf("%s: Bare of a multi-term leaf: %v", name, err)
		}
	}
}

// P18.1: NOT (b AND NOT (b AND ..)): a must that is a not becomes a must-not.
func TestDeepTurns(t *testing.T) {
	const n = 1<<15 - 2
	q, want := a, musts(b0, a0)
	for i := range n {
		q = not(musts(b, q))
		if i > 0 {
			want = list(0, "+-", b0, want)
		}
	}
	if got, err := rewrite.Normal(q); err != nil || !alike(got, not(want)) || !rewrite.Is(not(want)) {
		t.Errorf("Normal is %s, %v", brief(got), err)
	}
}

// P18.1: wide queries.
func TestWideQueries(t *testing.T) {
	const n = 30000
	xs, xs0 := up(n, word), up(n, bareWord)
	nots, nots0 := up(n, func(i int) api.Query { return not(word(i)) }), up(n, func(i int) api.Query { return not(bareWord(i)) })
	for _, r := range []row{
		{musts(xs...), musts(xs...), musts(xs0...)}, {shoulds(0, xs...), shoulds(1, xs...), shoulds(1, xs0...)}, {shoulds(n, xs...), musts(xs...), musts(xs0...)}, {shoulds(n-1, xs...), shoulds(n-1, xs...), shoulds(n-1, xs0...)}, {shoulds(n+1, xs...), none, none}, {most(xs...), most(xs...), shoulds(1, xs0...)},
		{placed(0, with(a), nil, xs), placed(0, with(a), nil, xs0), placed(0, with(a0), nil, xs0)}, {placed(0, with(idle), nil, xs), not(shoulds(1, xs0...)), not(shoulds(1, xs0...))}, {placed(0, with(a), nil, nots), musts(with(a, xs0...)...), musts(with(a0, xs0...)...)},
		{musts(nots...), not(shoulds(1, xs0...)), not(shoulds(1, xs0...))}, {not(musts(nots...)), fixed(0, shoulds(1, xs0...)), shoulds(1, xs0...)}, {not(most(nots...)), not(shoulds(1, nots0...)), not(shoulds(1, nots0...))}, {musts(a, not(most(nots...))), musts(with(a, xs0...)...), musts(with(a0, xs0...)...)},
		{shoulds(n, up(n, still(all))...), musts(up(n, still(all))...), all}, {shoulds(0, up(n, still(none))...), none, none}, {musts(up(n, still(idle))...), idle, all}, {shoulds(1, shoulds(1, xs...), shoulds(1, xs...)), shoulds(1, slices.Concat(xs, xs)...), shoulds(1, slices.Concat(xs0, xs0)...)},
	} {
		if got, err := rewrite.Normal(r.q); err != nil || !alike(got, r.score) {
			t.Errorf("Normal(%.100s) is %.200s, %v", brief(r.q), brief(got), err)
		}
		if got, err := rewrite.Bare(r.q); err != nil || !alike(got, modelFix(r.match, 0)) {
			t.Errorf("Bare(%.100s) is %.200s, %v", brief(r.q), brief(got), err)
		}
		if !rewrite.Is(r.score) {
			t.Errorf("Is(%.100s) is false", brief(r.score))
		}
	}
}
