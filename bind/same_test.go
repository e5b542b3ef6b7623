package bind_test

import (
	"testing"

	"concord/api"
	"concord/bind"
)

// wantSame says whether two queries are alike, whichever is named first, alone and as kids.
func wantSame(t *testing.T, x, y api.Query, want bool) {
	t.Helper()
	for _, pair := range [][2]api.Query{{x, y}, {y, x}, {not(x), not(y)}, {most(all, x, none), most(all, y, none)}, {list(0, " +", all, x), list(0, " +", all, y)}, {{Kids: []api.Query{x}}, {Kids: []api.Query{y}}}} {
		if bind.Same(pair[0], pair[1]) != want {
			t.Fatalf("Same(%v, %v) is %v", pair[0], pair[1], !want)
		}
	}
}

// fullQuery has something in every field, and is of no kind.
func fullQuery() api.Query {
	return api.Query{
		Kind: 77, Field: -2, Text: "t", Terms: []string{"a", "b", "a"}, Offs: []int{3, -1}, N: -5, Weight: 6, Lo: api.Bound{Open: true, In: true, Text: "l"}, Hi: api.Bound{Open: true, In: true, Text: "h"},
		Occur: []int{1, 9, 1}, Kids: []api.Query{all, not(), {Kind: -1, Kids: []api.Query{none, most()}}},
	}
}

// P16.1: Same of queries that differ in one field, in an end of a span, in a term, an Off, an Occur, a kid.
func TestSameOfDifferent(t *testing.T) {
	for _, q := range append(goodOnes(), fullQuery(), not(all, all), most()) {
		wantSame(t, q, copied(q), true)
		for i, change := range changes {
			changed := copied(q)
			change.set(&changed)
			wantSame(t, q, changed, false)
			for j := range i {
				other := copied(q)
				changes[j].set(&other)
				wantSame(t, changed, other, alike(changed, other))
			}
		}
		for i := range q.Terms {
			changed := copied(q)
			changed.Terms[i] += "x"
			wantSame(t, q, changed, false)
			changed.Terms = changed.Terms[:i]
			wantSame(t, q, changed, false)
		}
		for i := range q.Offs {
			changed := copied(q)
			changed.Offs[i]++
			wantSame(t, q, changed, false)
			changed.Offs = changed.Offs[:i]
			wantSame(t, q, changed, false)
		}
		for i := range q.Occur {
			changed := copied(q)
			changed.Occur[i]++
			wantSame(t, q, changed, false)
			changed.Occur = changed.Occur[:i]
			wantSame(t, q, changed, false)
		}
		for i := range q.Kids {
			changed := copied(q)
			changed.Kids[i].Weight++
			wantSame(t, q, changed, false)
			changed.Kids = changed.Kids[:i]
			wantSame(t, q, changed, false)
		}
	}
	wantSame(t, most(all, none), most(none, all), false)
	wantSame(t, list(0, " +", all, all), list(0, "+ ", all, all), false)
	wantSame(t, span(0, within("a"), without("a")), span(0, without("a"), within("a")), false)
	wantSame(t, most(most(all, none), all), most(all, most(none, all)), false)
	wantSame(t, phrase(0, 0, 0, []string{"ab", "c"}, 0, 1), phrase(0, 0, 0, []string{"a", "bc"}, 0, 1), false)
	wantSame(t, api.Query{Offs: []int{1}}, api.Query{Occur: []int{1}}, false)
	wantSame(t, api.Query{Lo: within("a")}, api.Query{Hi: within("a")}, false)
}

// P16.1: an empty list is alike to none at all, spare room or not.
func TestSameOfEmptyLists(t *testing.T) {
	for _, q := range append(goodOnes(), most(), list(3, ""), phrase(0, 0, 0, nil)) {
		p := copied(q)
		if len(p.Terms) == 0 {
			p.Terms = make([]string, 0, 4)
		}
		if len(p.Offs) == 0 {
			p.Offs = []int{}
		}
		if len(p.Occur) == 0 {
			p.Occur = make([]int, 0, 4)
		}
		if len(p.Kids) == 0 {
			p.Kids = []api.Query{{}}[:0]
		}
		wantSame(t, q, p, true)
	}
	for _, p := range []api.Query{{Terms: []string{""}}, {Offs: []int{0}}, {Occur: []int{0}}, {Kids: []api.Query{{}}}} {
		wantSame(t, api.Query{}, p, false)
	}
}

// P16.1: Same of many queries, good or not.
func TestSameOfMany(t *testing.T) {
	m := newMaker(165)
	for range 3000 {
		x := m.within(10).query(3)
		y := m.change(x)
		wantSame(t, x, y, alike(x, y))
		wantSame(t, y, copied(y), true)
		z := m.within(3).query(2)
		wantSame(t, x, z, alike(x, z))
	}
}

// P16.1: Size counts every node, also of queries that aren't good.
func TestSize(t *testing.T) {
	for want, list := range map[int][]api.Query{
		1: {{}, none, all, has(9), {Kind: -5}, {Kind: 99, Occur: []int{1, 2, 3}, Terms: []string{"a", "b"}}, most(), not(), list(0, "  "), phrase(0, 0, 0, []string{"a", "b", "c"}, 0, 1, 2), span(0, open(), within("a"))},
		2: {most(all), not(all), not(api.Query{}), boost(2, all), list(0, " ", all), {Kids: []api.Query{{}}}, {Kind: api.QTerm, Kids: []api.Query{all}}},
		3: {most(all, all), not(not(all)), not(all, none), fixed(0, not(all)), list(0, "", all, all), {Kind: api.QHas, Kids: []api.Query{all, all}}},
		5: {most(all, most(all, all)), list(0, "  ", not(all), not(none)), {Kind: 50, Kids: []api.Query{{}, {Kids: []api.Query{{}, {}}}}}},
		6: {fullQuery()},
		7: {most(most(all, all), most(all, all))},
	} {
		for _, q := range list {
			if got := bind.Size(q); got != want {
				t.Errorf("Size(%v) is %d, want %d", q, got, want)
			}
		}
	}
}
