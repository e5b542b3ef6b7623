package plan_test

import (
	"slices"
	"strings"
	"testing"

	"concord/api"
	"concord/plan"
)

// wantCost says what a query costs over all cuts of the examples, and that the model says so as well.
func wantCost(t *testing.T, cuts [][]made, q api.Query, want int) {
	t.Helper()
	for i, cut := range cuts {
		if n := mustCost(t, q, cut); n != want {
			t.Errorf("cut %d: Cost(%s) is %d, want %d", i, brief(q), n, want)
		}
	}
}

// P19.1: the costs of the chapter's examples, and of every kind.
func TestCostRows(t *testing.T) {
	cuts := examples(t)
	for _, r := range []struct {
		q    api.Query
		want int
	}{
		// The examples.
		{a, 1}, {b, 4}, {c, 7}, {z, 0}, {list(0, "++ ", c, b, a), 4}, {shoulds(0, a, b, c), 12}, {shoulds(2, a, b, c), 12}, {list(0, "-", a), 0}, {list(3, "+  ", a, b, c), 0}, {not(a), 10}, {most(a, all), 11},
		// Leaves.
		{none, 0}, {all, 10}, {has(0), 10}, {has(7), 10}, {x, 3}, {term(0, "c", 99), 7}, {term(0, "", 0), 0}, {term(0, "\x00c", 0), 0}, {term(0, "ca", 0), 0}, {term(15, "c", 0), 0}, {term(3, "c", 0), 0},
		{phrase(0, 0, 0, "c"), 7}, {phrase(0, 0, 0, "c b"), 4}, {phrase(0, 9, 9, "b c x c"), 3}, {phrase(0, 0, 0, "c c c"), 7}, {phrase(0, 0, 0, "c z a"), 0}, {phrase(15, 0, 0, "c b"), 0},
		// Other kinds.
		{most(a), 1}, {most(a, a, a), 3}, {most(b, c, x), 14}, {most(none, none), 0}, {most(all, all, not(a)), 30}, {not(all), 10}, {not(none), 10}, {not(not(a)), 10}, {boost(0, c), 7}, {boost(9, none), 0}, {fixed(0, most(b, c)), 11}, {boost(2, fixed(3, boost(4, all))), 10},
		// Lists: need 0, 1, below, at and above the number of shoulds, with musts and without.
		{shoulds(0, b), 4}, {shoulds(1, b), 4}, {shoulds(2, b), 0}, {shoulds(1, a, b, c), 12}, {shoulds(3, a, b, c), 12}, {shoulds(4, a, b, c), 0}, {shoulds(api.MaxNumber, a, b), 0}, {shoulds(0, a, a), 2}, {shoulds(0, none, none), 0},
		{musts(c), 7}, {musts(c, b), 4}, {musts(c, z), 0}, {musts(all, not(c)), 10}, {musts(c, all), 7}, {musts(all, c), 7},
		{list(0, "+ ", c, a), 7}, {list(1, "+ ", c, a), 1}, {list(1, "+  ", c, a, b), 5}, {list(2, "+  ", c, a, b), 5}, {list(3, "+  ", c, a, b), 0}, {list(1, "+  ", b, a, c), 4}, {list(1, "+", c), 0}, {list(1, "+-", c, a), 0}, {list(0, "+-", c, a), 7}, {list(0, "+-", a, all), 1}, {list(0, "--", a, c), 0}, {list(2, "--", a, c), 0}, {list(0, "- ", all, c), 7}, {list(0, " -- ", a, c, c, b), 5}, {list(1, "++   ", all, c, x, a, z), 4},
		// In one another.
		{musts(most(a, b), boost(3, c)), 5}, {shoulds(0, musts(c, b), musts(c, a)), 5}, {most(shoulds(2, a), musts(b, c), not(z)), 14}, {not(list(0, "+-", a, b)), 10}, {fixed(2, list(1, "+ ", all, most(x, x))), 6},
	} {
		wantCost(t, cuts, r.q, r.want)
	}
}

// P19.1: dead documents count for a leaf, and not for all documents.
func TestDeadDocuments(t *testing.T) {
	s := mustParse(t, "t:text;k:keyword")
	docs := inField("t", "a", "a b", "a b", "b", "c")
	whole := mustMake(t, s, docs)
	for _, r := range []struct {
		dead []int
		live int
		all  bool
	}{{nil, 5, false}, {[]int{4}, 4, false}, {[]int{0, 1}, 3, true}, {[]int{0, 1, 2}, 2, true}, {run(0, 5), 0, true}} {
		cut := []made{mustKill(t, whole, r.dead...)}
		for _, x := range []struct {
			q    api.Query
			want int
		}{{a, 3}, {b, 3}, {c, 1}, {all, r.live}, {has(0), r.live}, {has(1), r.live}, {not(a), r.live}, {most(a, all), 3 + r.live}, {musts(all, a), min(3, r.live)}, {phrase(0, 0, 0, "a c"), 1}} {
			if n := mustCost(t, x.q, cut); n != x.want {
				t.Errorf("with %v dead, Cost(%s) is %d, want %d", r.dead, brief(x.q), n, x.want)
			}
		}
		if p := holdQuery(t, musts(all, a), cut); p.All != r.all {
			t.Errorf("with %v dead: %s", r.dead, brief(p))
		}
	}
}

// P19.1: the cost of a leaf is summed over the parts, one that stands there twice counts twice; over no part it is 0.
func TestParts(t *testing.T) {
	s, other := mustParse(t, "t:text;u:text"), mustParse(t, "u:text")
	docs := inField("t", "a", "a b")
	one, two := mustMake(t, s, docs, 0), mustMake(t, other, inField("u", "b", "b a", "b"), 2)
	low := mustMake(t, s, inField("u", "a", "c"))
	for _, r := range []struct {
		cut              []made
		all, a, b, later int
	}{
		{nil, 0, 0, 0, 0}, {[]made{one}, 1, 2, 1, 0}, {[]made{two}, 2, 1, 3, 0}, {[]made{one, two}, 3, 3, 4, 0}, {[]made{two, one, two}, 5, 4, 7, 0}, {[]made{low}, 2, 0, 0, 1}, {[]made{low, two, low}, 6, 1, 3, 2}, {[]made{mustMake(t, s, nil)}, 0, 0, 0, 0},
	} {
		for _, x := range []struct {
			q    api.Query
			want int
		}{{all, r.all}, {a, r.a}, {b, r.b}, {term(1, "a", 0), r.later}, {most(a, b, all), r.a + r.b + r.all}} {
			if n := mustCost(t, x.q, r.cut); n != x.want {
				t.Errorf("Cost(%s) is %d, want %d", brief(x.q), n, x.want)
			}
			holdQuery(t, x.q, r.cut)
		}
	}
	// Over no part all costs are alike, so all stays in its order, and the first candidate drives.
	for _, r := range []struct {
		q    api.Query
		want api.Plan
	}{
		{list(0, "  -+-+", c, a, a, all, c, a), api.Plan{Root: list(0, "++--  ", all, a, a, c, c, a), All: true}},
		{musts(b, all, a), api.Plan{Root: musts(b, all, a), Drive: leaves("b")}},
		{most(c, b, a), api.Plan{Root: most(c, b, a), Drive: leaves("a b c")}},
		{shoulds(2, c, b, a), api.Plan{Root: shoulds(2, c, b, a), Drive: leaves("b c")}},
		{none, api.Plan{Root: none}}, {all, api.Plan{Root: all, All: true}},
	} {
		if p := holdQuery(t, r.q, nil); !alikePlans(p, r.want) {
			t.Errorf("Make(%s) over no part is %s", brief(r.q), brief(p))
		}
	}
}

// row is a query, the same in its order, and what drives it: words of the field 0, or "ALL".
type row struct {
	q, root api.Query
	drive   string
}

func wantPlans(t *testing.T, rows []row) {
	t.Helper()
	for i, cut := range examples(t) {
		for _, r := range rows {
			want := api.Plan{Root: r.root, All: r.drive == "ALL"}
			if !want.All {
				want.Drive = leaves(r.drive)
			}
			if p := holdQuery(t, r.q, cut); !alikePlans(p, want) {
				t.Errorf("cut %d: Make(%s) is %s, want %s", i, brief(r.q), brief(p), brief(want))
			}
		}
	}
}

// P19.1: the plans of the chapter's examples.
func TestExamples(t *testing.T) {
	wantPlans(t, []row{
		{list(0, " +--+", c, b, a, c, a), list(0, "++-- ", a, b, c, a, c), "a"},
		{shoulds(2, c, b, a), shoulds(2, a, b, c), "a b"},
		{shoulds(0, a, not(b)), shoulds(0, a, not(b)), "ALL"},
		{musts(not(b), c), musts(c, not(b)), "c"},
		{musts(all, most(a, b, c)), musts(all, most(a, b, c)), "ALL"},
		{musts(all, most(a, b)), musts(most(a, b), all), "a b"},
		{list(0, "-", a), list(0, "-", a), ""},
	})
}

// P19.1: the order of the kids. Weights tell apart what costs the same.
func TestOrder(t *testing.T) {
	a1, a2, a3, b1 := term(0, "a", 1), term(0, "a", 2), term(0, "a", 3), boost(9, b)
	wantPlans(t, []row{
		{musts(c, b, a), musts(a, b, c), "a"}, {shoulds(0, c, b, a, z), shoulds(0, z, a, b, c), "a b c z"}, {most(c, a, b), most(a, b, c), "a b c"},
		{list(0, "---+", a, b, c, c), list(0, "+---", c, c, b, a), "c"}, {list(0, "--- ", a, c, b, c), list(0, "--- ", c, b, a, c), "c"},
		{list(0, " -+", a, b, c), list(0, "+- ", c, b, a), "c"}, {list(0, "- +", c, c, c), list(0, "+- ", c, c, c), "c"}, {list(0, " + +-", all, all, c, a, a), list(0, "++-  ", a, all, a, c, all), "a"},
		// Kids of one Occur and one cost.
		{musts(a2, c, a1, b, a3), musts(a2, a1, a3, b, c), "a"}, {shoulds(0, a3, c, a1, a2), shoulds(0, a3, a1, a2, c), "a c"}, {most(b1, a2, b, a1, a3), most(a2, a1, a3, b1, b), "a b"},
		{list(0, "+----", z, a2, c, a1, a3), list(0, "+----", z, c, a2, a1, a3), "z"},
		{list(0, "+-+-+-", b1, a3, b, a1, a2, a2), list(0, "+++---", a2, b1, b, a3, a1, a2), "a"},
		{most(all, has(0), not(a), not(z)), most(all, has(0), not(a), not(z)), "ALL"}, {musts(not(z), has(1), all, not(a)), musts(not(z), has(1), all, not(a)), "ALL"},
		{most(none, z, none), most(none, z, none), "z"}, {most(z, none, z), most(z, none, z), "z"},
		// In one another: the costs of kids go by all that is in them.
		{musts(most(c, b), most(b, a)), musts(most(a, b), most(b, c)), "a b"},
		{not(shoulds(1, c, a)), not(shoulds(1, a, c)), "ALL"}, {boost(2, most(c, a)), boost(2, most(a, c)), "a c"}, {fixed(0, most(c, a)), fixed(0, most(a, c)), "a c"},
		{list(0, "+--", c, most(c, a), musts(c, a)), list(0, "+--", c, most(a, c), musts(a, c)), "c"},
		{most(not(most(c, a)), shoulds(0, fixed(1, most(b, a)), b)), most(shoulds(0, b, fixed(1, most(a, b))), not(most(a, c))), "ALL"},
		{shoulds(0, list(0, "+ ", b, c), list(0, "+ ", a, list(0, " -", b, a))), shoulds(0, list(0, "+ ", a, list(0, "- ", a, b)), list(0, "+ ", b, c)), "a b"},
		{phrase(0, 0, 0, "c b a"), phrase(0, 0, 0, "c b a"), "a"},
	})
}

// P19.1: what drives each kind.
func TestDrives(t *testing.T) {
	wantPlans(t, []row{
		{none, none, ""}, {all, all, "ALL"}, {has(0), has(0), "ALL"}, {has(9), has(9), "ALL"}, {not(none), not(none), "ALL"}, {not(a), not(a), "ALL"}, {not(not(a)), not(not(a)), "ALL"}, {a, a, "a"}, {z, z, "z"},
		// Phrases: the first of the rarest.
		{phrase(0, 1, 2, "c b"), phrase(0, 1, 2, "c b"), "b"}, {phrase(0, 1, 2, "c x b"), phrase(0, 1, 2, "c x b"), "x"}, {phrase(0, 0, 0, "c c"), phrase(0, 0, 0, "c c"), "c"}, {phrase(0, 0, 0, "c z b q z"), phrase(0, 0, 0, "c z b q z"), "z"}, {phrase(0, 0, 0, "c q b z q"), phrase(0, 0, 0, "c q b z q"), "q"}, {phrase(0, 0, 0, "b"), phrase(0, 0, 0, "b"), "b"},
		// Maxima, boosts, constants.
		{most(b, a), most(a, b), "a b"}, {most(a, none), most(none, a), "a"}, {most(none), most(none), ""}, {most(a, has(0), b), most(a, b, has(0)), "ALL"}, {most(a, most(b, most(not(c)))), most(a, most(b, most(not(c)))), "ALL"}, {most(musts(c, all), a), most(a, musts(c, all)), "a c"}, {boost(7, a), boost(7, a), "a"}, {boost(0, all), boost(0, all), "ALL"}, {fixed(7, phrase(0, 0, 0, "c a")), fixed(7, phrase(0, 0, 0, "c a")), "a"}, {fixed(1, none), fixed(1, none), ""},
		{most(a, boost(2, a), fixed(3, a)), most(a, boost(2, a), fixed(3, a)), "a"},
		// Lists of shoulds: the first S - need + 1 of them.
		{shoulds(0, c, b, a), shoulds(0, a, b, c), "a b c"}, {shoulds(1, c, b, a), shoulds(1, a, b, c), "a b c"}, {shoulds(2, c, b, a), shoulds(2, a, b, c), "a b"}, {shoulds(3, c, b, a), shoulds(3, a, b, c), "a"}, {shoulds(4, c, b, a), shoulds(4, a, b, c), ""}, {shoulds(api.MaxNumber, a), shoulds(api.MaxNumber, a), ""},
		{shoulds(2, all, a), shoulds(2, a, all), "a"}, {shoulds(1, all, a), shoulds(1, a, all), "ALL"}, {shoulds(2, all, not(a), a), shoulds(2, a, all, not(a)), "ALL"}, {shoulds(3, all, not(a), a), shoulds(3, a, all, not(a)), "a"},
		// Musts.
		{musts(c), musts(c), "c"}, {musts(all), musts(all), "ALL"}, {musts(all, b, c), musts(b, c, all), "b"}, {musts(c, none), musts(none, c), ""}, {list(0, "+-", not(c), a), list(0, "+-", not(c), a), "ALL"}, {list(0, "+ ", c, a), list(0, "+ ", c, a), "c"}, {list(0, "+ ", all, a), list(0, "+ ", all, a), "ALL"},
		// Musts and shoulds.
		{list(1, "+ ", c, a), list(1, "+ ", c, a), "a"}, {list(1, "+  ", c, b, a), list(1, "+  ", c, a, b), "a b"}, {list(2, "+  ", c, b, a), list(2, "+  ", c, a, b), "a"}, {list(3, "+  ", c, b, a), list(3, "+  ", c, a, b), ""}, {list(1, "+ ", a, c), list(1, "+ ", a, c), "a"}, {list(1, "+-", c, a), list(1, "+-", c, a), ""}, {list(1, "+", c), list(1, "+", c), ""},
		{list(2, "+   ", b, c, all, a), list(2, "+   ", b, a, c, all), "b"}, {list(2, "+  ", all, c, all), list(2, "+  ", all, c, all), "c"}, {list(1, "+  ", all, c, all), list(1, "+  ", all, c, all), "ALL"},
		// One price: the first.
		{list(1, "+ ", b, b), list(1, "+ ", b, b), "b"}, {musts(most(x, a), b), musts(most(a, x), b), "a x"}, {musts(b, most(x, a)), musts(b, most(a, x)), "b"}, {list(1, "+  ", b, x, a), list(1, "+  ", b, a, x), "b"}, {list(1, "+ ", most(x, a), b), list(1, "+ ", most(a, x), b), "a x"}, {musts(most(c, x), all), musts(most(x, c), all), "c x"}, {musts(all, most(c, x)), musts(all, most(x, c)), "ALL"}, {musts(not(a), most(x, c)), musts(not(a), most(x, c)), "ALL"}, {musts(none, z), musts(none, z), ""}, {musts(z, none), musts(z, none), "z"}, {list(1, "+", z), list(1, "+", z), "z"},
		// A leaf stands in a set once, and counts once in its price; all it costs counts in the order.
		{most(a, a), most(a, a), "a"}, {musts(most(a, a, a, a, a), b), musts(b, most(a, a, a, a, a)), "a"}, {list(1, "+ ", b, most(x, x)), list(1, "+ ", b, most(x, x)), "x"}, {list(1, "+  ", b, x, x), list(1, "+  ", b, x, x), "x"}, {musts(most(b, c, c, b), all), musts(all, most(b, b, c, c)), "ALL"}, {musts(most(x, c, c, x), all), musts(all, most(x, x, c, c)), "ALL"}, {musts(most(x, b, b, x), all), musts(all, most(x, x, b, b)), "b x"},
		{musts(shoulds(0, most(b, x), most(x, b)), all), musts(all, shoulds(0, most(x, b), most(x, b))), "b x"},
		// In one another.
		{shoulds(0, musts(c, a), musts(c, b)), shoulds(0, musts(a, c), musts(b, c)), "a b"}, {shoulds(0, musts(c, a), shoulds(2, b)), shoulds(0, shoulds(2, b), musts(a, c)), "a"}, {most(phrase(0, 0, 0, "c b"), phrase(0, 0, 0, "x c"), fixed(1, shoulds(2, c, x))), most(phrase(0, 0, 0, "x c"), phrase(0, 0, 0, "c b"), fixed(1, shoulds(2, x, c))), "b x"},
		{list(0, "+-", c, list(0, "+", a)), list(0, "+-", c, list(0, "+", a)), "c"},
	})
}

// P19.1: the leaves of Drive by rising field, in a field by rising term, byte by byte.
func TestLeavesRise(t *testing.T) {
	cut := examples(t)[3]
	var kids []api.Query
	var want []api.Leaf
	texts := []string{"", "\x00", "A", "B", "a", "aa", "ab", "b", "\xc3\xa4", "\xff", "\xff\x00", strings.Repeat("\xff", 100)}
	for field := range api.MaxFields {
		for _, text := range texts {
			kids = append(kids, term(field, text, 0), phrase(field, 0, 1, "q q"))
			want = append(want, api.Leaf{Field: field, Term: text})
		}
		want = append(want, api.Leaf{Field: field, Term: "q"})
	}
	slices.SortFunc(want, func(a, b api.Leaf) int {
		if a.Field != b.Field {
			return a.Field - b.Field
		}
		return strings.Compare(a.Term, b.Term)
	})
	m := newMaker(191)
	for range 20 {
		m.Shuffle(len(kids), func(i, k int) { kids[i], kids[k] = kids[k], kids[i] })
		for _, q := range []api.Query{most(kids...), shoulds(0, kids...), shoulds(0, most(kids[:100]...), boost(1, most(kids[50:]...)))} {
			p, err := plan.Make(q, partsOf(cut), true)
			if err != nil || p.All || !slices.Equal(p.Drive, want) {
				t.Fatalf("Drive is %v, want %v", p.Drive, want)
			}
		}
	}
}

// smallKids are kids of all costs and drives.
func smallKids() []api.Query {
	return []api.Query{none, all, a, x, b, c, z, has(0), not(b), phrase(0, 0, 7, "c b"), most(b, x), most(x, x, x), boost(2, x), shoulds(2, a, c), list(1, "+", a), fixed(3, musts(all, x)), list(0, "- ", c, b)}
}

// eachList goes over all lists of so many kids, of all needs up to one above their number.
func eachList(size int, from []api.Query, use func(q api.Query)) {
	var grow func(kids []api.Query, signs string)
	grow = func(kids []api.Query, signs string) {
		if len(kids) == size {
			for n := range size + 2 {
				use(list(n, signs, kids...))
			}
			return
		}
		for _, kid := range from {
			for _, sign := range []string{" ", "+", "-"} {
				grow(append(slices.Clone(kids), kid), signs+sign)
			}
		}
	}
	grow(nil, "")
}

// P19.1: all small lists.
func TestSmallLists(t *testing.T) {
	cut := examples(t)[3]
	hold := func(q api.Query) { holdQuery(t, q, cut) }
	eachList(1, smallKids(), hold)
	eachList(2, smallKids(), hold)
	eachList(3, []api.Query{a, x, b, not(b), most(a, x)}, hold)
	eachList(4, []api.Query{x, most(a, x)}, hold)
}

// P19.1: made queries over made parts.
func TestMadeQueries(t *testing.T) {
	m := newMaker(192)
	met := kinds{}
	for range 400 {
		cut := m.parts(t)
		for range 25 {
			q := m.within(30).query()
			p := holdQuery(t, q, cut)
			met.note("all documents", p.All)
			met.note("no leaf", !p.All && len(p.Drive) == 0)
			met.note("one leaf", len(p.Drive) == 1)
			met.note("several leaves", len(p.Drive) > 1)
			met.note("several fields", len(p.Drive) > 1 && p.Drive[0].Field != p.Drive[len(p.Drive)-1].Field)
			met.note("another order", !alike(p.Root, q))
			met.note("no part", len(cut) == 0)
			met.note("several parts", len(cut) > 1)
		}
	}
	met.wantMany(t, 700, "all documents", "no leaf", "one leaf", "several leaves", "several fields", "another order", "no part", "several parts")
}

// P19.1: queries that aren't good or aren't plain, alone and in others, over parts and over none.
func TestRefusals(t *testing.T) {
	cut := examples(t)[1]
	for _, q := range slices.Concat(badOnes(), manyTermOnes()) {
		for _, wrap := range wraps {
			wantRefused(t, wrap(q), cut)
			wantRefused(t, wrap(wrap(q)), nil)
		}
	}
	for _, q := range smallKids() {
		for _, wrap := range wraps {
			holdQuery(t, wrap(q), cut)
		}
	}
	// A field that no part has is still a good one; the one behind MaxFields isn't.
	holdQuery(t, term(api.MaxFields-1, "a", 0), cut)
	wantRefused(t, term(api.MaxFields, "a", 0), cut)
	wantRefused(t, phrase(api.MaxFields, 0, 0, "a"), cut)
	wantRefused(t, has(api.MaxFields), cut)
}

// P19.1: without on, queries stay as they are whatever the parts are.
func TestOff(t *testing.T) {
	for _, cut := range append(examples(t), nil) {
		for _, q := range []api.Query{list(0, " +--+", c, b, a, c, a), shoulds(2, c, b, a), none, a, all, most(c, a), not(most(c, a)), list(0, "-", a)} {
			p, err := plan.Make(q, partsOf(cut), false)
			if err != nil || !p.All || len(p.Drive) > 0 || !alike(p.Root, q) {
				t.Errorf("Make(%s) without on is %s, %v", brief(q), brief(p), err)
			}
		}
	}
}
