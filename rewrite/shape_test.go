package rewrite_test

import (
	"testing"

	"concord/api"
	"concord/rewrite"
)

// holdAgain holds what is told of every answer: it is normal, it keeps the shape, and its bound isn't greater.
func holdAgain(t testing.TB, q api.Query) {
	t.Helper()
	normal, err := rewrite.Normal(q)
	bare, bareErr := rewrite.Bare(q)
	if err != nil || bareErr != nil {
		t.Fatalf("%s: %v, %v", brief(q), err, bareErr)
	}
	for _, n := range []api.Query{normal, bare} {
		again, err := rewrite.Normal(n)
		if err != nil || !alike(again, n) || !rewrite.Is(n) {
			t.Fatalf("of %s %s was answered, and the normal form of that is %s, %v", brief(q), brief(n), brief(again), err)
		}
		if list := faults(n); len(list) > 0 {
			t.Fatalf("of %s %s was answered: %s", brief(q), brief(n), list)
		}
	}
	if x := boundOf(t, bare); x != 0 {
		t.Fatalf("the bound of the bare form of %s is %d", brief(q), x)
	}
	if was, is := boundOf(t, q), boundOf(t, normal); was < api.Top && is > was {
		t.Fatalf("the bound of %s is %d, that of its normal form %s is %d", brief(q), was, brief(normal), is)
	}
}

// P18.3 to P18.5: over lists of all kinds of kids, in every place and with every need.
func TestAgainOfSmallLists(t *testing.T) {
	hold := func(q api.Query) { holdAgain(t, q) }
	eachList(1, smallKids(), hold)
	eachList(2, smallKids(), hold)
	eachList(3, smallKids()[1:7], hold)
}

// P18.3 to P18.5: over made queries of all weights.
func TestAgainOfMadeQueries(t *testing.T) {
	m := newMaker(187)
	met := kinds{}
	for i := range 20000 {
		weight := []func() uint64{m.small, m.unit, m.weight}[i%3]
		q := m.within(25).query(weight)
		holdAgain(t, q)
		was, is := boundOf(t, q), boundOf(t, mustNormal(t, q))
		met.note("a lower bound", is < was && was < api.Top)
		met.note("the same bound", is == was && 0 < was && was < api.Top)
		met.note("reaches Top", was == api.Top)
	}
	met.wantMany(t, 500, "a lower bound", "the same bound", "reaches Top")
}

// P18.3: Is is false of what breaks one clause of the shape, wherever it stands, and of what isn't good.
func TestIsOfOthers(t *testing.T) {
	for _, q := range []api.Query{
		boost(2, a), boost(1, all), fixed(1, all), fixed(1, has(0)), fixed(0, a0), fixed(0, not(a0)), fixed(0, phrase(0, 0, 0, "x y")), fixed(2, none), fixed(2, a), fixed(2, fixed(2, a0)), fixed(2, most(a0, b0)), fixed(2, list(0, "+ ", a0, b0)),
		not(a), not(none), not(all), not(not(a0)), not(fixed(1, a0)), not(most(a0, b0)), not(shoulds(1, a0, b)),
		most(a), most(a, none), most(a, most(b, c)), most(a, boost(2, b)), phrase(0, 0, 5, "x"),
		shoulds(1, a), shoulds(0, a, b), shoulds(2, a, b), shoulds(1, a, none), shoulds(1, a, all), shoulds(1, a, shoulds(1, b, c)), musts(a), musts(a, none), musts(a, idle), musts(a, not(b0)), musts(a, musts(b, c)), musts(a, list(0, "+ ", b, c)),
		list(0, "+-", a, b), list(0, "+-", a, none), list(0, "+-", a, all), list(0, "+-", a, not(b0)), list(0, "+-", a, shoulds(1, b0, c0)), list(0, "+-", a, list(0, "+ ", b0, c0)), list(0, "+-", idle, a0), list(0, "-", a0), list(1, "+ ", a, b), list(0, " +", a, b), list(0, "-+", a0, b), list(1, "  + -", a, b, c, d, a0),
	} {
		if rewrite.Is(q) || alike(mustNormal(t, q), q) {
			t.Errorf("Is(%s) is true", brief(q))
		}
		for _, wrap := range []func(q api.Query) api.Query{func(q api.Query) api.Query { return shoulds(1, d, q) }, func(q api.Query) api.Query { return list(0, "+ ", d, q) }} {
			// Within a list a plain should-list isn't normal either: all of these aren't.
			if rewrite.Is(wrap(q)) || alike(mustNormal(t, wrap(q)), wrap(q)) {
				t.Errorf("Is(%s) is true", brief(wrap(q)))
			}
		}
	}
	for _, q := range append(badOnes(), manyTermOnes()...) {
		if rewrite.Is(q) {
			t.Errorf("Is(%s) is true", brief(q))
		}
	}
}

// P18.3 and P18.4: the forms that are normal already.
func TestIsOfNormalOnes(t *testing.T) {
	for _, q := range []api.Query{
		none, all, has(0), a, a0, phrase(0, 0, 5, "x y"), idle, fixed(2, all), fixed(0, has(0)), fixed(2, a0), fixed(2, not(a0)), fixed(0, musts(a0, b0)), fixed(5, shoulds(2, a0, b0, not(c0))), not(a0), not(has(0)), not(shoulds(1, a0, b0)), not(shoulds(1, a0, not(b0))), not(musts(a0, b0)),
		most(a, b), most(a, a), most(not(a0), all, idle), most(shoulds(1, a, b), fixed(2, shoulds(1, a0, b0))), shoulds(1, a, b), shoulds(2, a, b, c), shoulds(1, a, not(b0)), shoulds(1, a, most(b, c)), shoulds(1, a, list(0, "+ ", b, c)), shoulds(2, shoulds(1, a, b), c, d), musts(a, b), musts(a, all), musts(a, fixed(2, all)), musts(a, shoulds(1, b, c)),
		list(0, "+ ", idle, a), list(0, "+-", all, a0), list(0, "+ -", idle, a, b0), list(1, "+  -", a, b, c, d0), list(1, "+  ", list(0, "+ ", a, b), c, d), list(0, "+-", a, musts(b0, c0)), list(0, "+-", a, shoulds(2, b0, c0, d0)), list(1, "  -", a, b, list(0, "+-", c0, d0)),
	} {
		if !rewrite.Is(q) {
			t.Errorf("Is(%s) is false: its normal form is %s", brief(q), brief(mustNormal(t, q)))
		}
		holdAgain(t, q)
	}
}

// P18.5: bounds that fall, and such that stay.
func TestBoundRows(t *testing.T) {
	for _, x := range []struct {
		q       api.Query
		was, is uint64
	}{
		{a, 2048, 2048}, {boost(3, a), 6144, 6144}, {fixed(3, a), 3 * api.One, 3 * api.One}, {fixed(3, none), 3 * api.One, 0}, {shoulds(0, a, b), 5120, 5120}, {shoulds(3, a, b), 5120, 0}, {list(0, "+ ", a, none), 2048, 2048}, {musts(a, none), 2048, 0}, {list(0, "+-", a, all), 2048, 0}, {list(0, "+-", a, not(all)), 2048, 2048},
		{most(a, b), 3072, 3072}, {not(boost(1<<63, all)), 0, 0}, {boost(1<<63, a0), 0, 0}, {fixed(1<<45-1, a), api.Top - api.One, api.Top - api.One}, {term(0, "a", 1<<53-1), api.Top - 1024, api.Top - 1024}, {boost(1<<45-1, all), api.Top - api.One, api.Top - api.One},
		{musts(fixed(1<<44, all), fixed(1<<44-1, a)), api.Top - api.One, api.Top - api.One}, {shoulds(0, fixed(1<<45-1, a), none), api.Top - api.One, api.Top - api.One}, {list(0, "+ -", term(0, "a", 1<<53-2), term(0, "b", 1), boost(1<<63, all)), api.Top - 1024, 0}, {list(0, "+ -", term(0, "a", 1<<53-2), term(0, "b", 1), boost(1<<63, a)), api.Top - 1024, api.Top - 1024},
	} {
		if was := boundOf(t, x.q); was != x.was {
			t.Errorf("the bound of %s is %d, want %d", brief(x.q), was, x.was)
		}
		if is := boundOf(t, mustNormal(t, x.q)); is != x.is {
			t.Errorf("the bound of the normal form of %s is %d, want %d", brief(x.q), is, x.is)
		}
		holdAgain(t, x.q)
	}
}

// P18.6: boosts in boosts, and boosts of 1.
func TestBoosts(t *testing.T) {
	m := newMaker(188)
	met := kinds{}
	weights := []uint64{0, 1, 2, 3, 1 << 31, 1 << 32, 1<<32 + 1, 1 << 63, 1<<64 - 1, 12297829382473034411}
	hold := func(q api.Query, x, y uint64) {
		t.Helper()
		two, one := mustNormal(t, boost(y, boost(x, q))), mustNormal(t, boost(x*y, q))
		if !alike(two, one) {
			t.Fatalf("Normal of %s in boosts of %d and %d is %s, and in one of %d it is %s", brief(q), x, y, brief(two), x*y, brief(one))
		}
		if plain, same := mustNormal(t, q), mustNormal(t, boost(1, q)); !alike(plain, same) {
			t.Fatalf("Normal(%s) is %s, and in a boost of 1 it is %s", brief(q), brief(plain), brief(same))
		}
		met.note("over 2^64", x > 0 && x*y/x != y)
		met.note("0 by going over", x > 0 && y > 0 && x*y == 0)
		met.note("1 by going over", x > 1 && x*y == 1)
	}
	for _, q := range append(smallKids(), phrase(1, 2, 4, "x y")) {
		for _, x := range weights {
			for _, y := range weights {
				for _, wrap := range wraps {
					hold(wrap(q), x, y)
				}
			}
		}
	}
	for range 5000 {
		hold(m.within(15).query(m.weight), m.weight(), m.weight())
	}
	met.wantMany(t, 500, "over 2^64", "0 by going over", "1 by going over")
	// A boost reaches every leaf that counts, and no other.
	q := list(0, "+ -", most(a, phrase(0, 0, 5, "x y"), fixed(2, b), not(c)), shoulds(2, a, has(1), all, c), boost(3, d))
	want := list(0, "+ -", most(term(0, "a", 14), phrase(0, 0, 35, "x y"), fixed(14, b0), not(c0)), list(1, "+   ", fixed(7, all), term(0, "a", 14), fixed(7, has(1)), term(1, "c", 35)), d0)
	if n := mustNormal(t, boost(7, q)); !alike(n, want) {
		t.Errorf("Normal is %s, want %s", brief(n), brief(want))
	}
}
