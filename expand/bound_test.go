package expand_test

import (
	"math"
	"testing"

	"concord/api"
	"concord/bind"
	"concord/expand"
	"concord/score"
)

// mustBound is the bound of a query, held against the model.
func mustBound(t testing.TB, q api.Query) uint64 {
	t.Helper()
	b, err := expand.Bound(q)
	if err != nil {
		t.Fatalf("Bound(%s): %v", brief(q), err)
	}
	if want := (corpus{}).bound(q, true); number(b).Cmp(want) != 0 {
		t.Fatalf("Bound(%s) is %d, want %d", brief(q), b, want)
	}
	return b
}

// P17.4: the chapter's examples, and every kind of plain query.
func TestBoundRows(t *testing.T) {
	ten := term(3, "a", 10)
	for _, row := range []struct {
		q    api.Query
		want uint64
	}{
		{boost(3, ten), 30720}, {boost(1<<63, all), api.Top}, {boost(0, all), 0}, {list(0, "+-", all, all), 262144}, {boost(0, boost(1<<63, all)), 0},
		{none, 0}, {all, 262144}, {has(0), 262144}, {has(15), 262144},
		{ten, 10240}, {term(0, "", 0), 0}, {term(15, "a", 1), 1024}, {phrase(0, 3, 10, "a"), 10240}, {phrase(15, 0, 7, "a b a"), 7168}, {phrase(0, 0, 0, "a b"), 0},
		{list(0, " ", ten), 10240}, {list(0, "  +", ten, all, ten), 282624}, {list(5, "--", all, ten), 0}, {list(9, " -+", none, all, ten), 10240}, {list(api.MaxNumber, "++", ten, ten), 20480},
		{most(ten), 10240}, {most(ten, all, ten), 262144}, {most(none, none), 0}, {most(fixed(2, ten), boost(99, ten), none), 1013760},
		{not(all), 0}, {not(none), 0}, {not(boost(1<<63, all)), 0},
		{boost(1, ten), 10240}, {boost(2, boost(3, ten)), 61440}, {boost(7, none), 0}, {boost(7, not(all)), 0}, {boost(2, list(0, " + -", ten, all, ten, all)), 2 * (262144 + 20480)},
		{fixed(0, ten), 0}, {fixed(1, none), 262144}, {fixed(5, ten), 1310720}, {fixed(2, boost(1<<63, all)), 524288}, {fixed(3, not(all)), 786432},
	} {
		if b := mustBound(t, row.q); b != row.want {
			t.Errorf("Bound(%s) is %d, want %d", brief(row.q), b, row.want)
		}
	}
}

// P17.4: sums and products at Top, just below it and above it.
func TestBoundAroundTop(t *testing.T) {
	const unit = 1 << 10 // the bound of a term of Weight 1
	below := term(0, "a", 1<<53-1)
	for _, row := range []struct {
		q    api.Query
		want uint64
	}{
		// Products: a term's, a phrase's, a constant's, a boost's.
		{below, api.Top - unit}, {term(0, "a", 1<<53), api.Top}, {term(0, "a", 1<<53+1), api.Top}, {term(0, "a", 1<<54), api.Top}, {term(0, "a", 1<<62), api.Top}, {term(0, "a", math.MaxUint64), api.Top},
		{phrase(0, 0, 1<<53-1, "a b"), api.Top - unit}, {phrase(0, 0, 1<<53, "a b"), api.Top}, {phrase(0, 0, 1<<54, "a"), api.Top}, {phrase(0, 0, math.MaxUint64, "a"), api.Top},
		{fixed(1<<45-1, all), api.Top - api.One}, {fixed(1<<45, all), api.Top}, {fixed(1<<46, all), api.Top}, {fixed(math.MaxUint64, none), api.Top},
		{boost(1<<45-1, all), api.Top - api.One}, {boost(1<<45, has(1)), api.Top}, {boost(1<<46, all), api.Top}, {boost(1<<46, boost(1<<46, all)), api.Top}, {boost(1<<32, boost(1<<32, term(0, "a", 1<<40))), api.Top},
		{boost(2, below), api.Top}, {boost(1, below), api.Top - unit}, {boost(1, term(0, "a", 1<<60)), api.Top}, {boost(math.MaxUint64, term(0, "a", 0)), 0}, {boost(math.MaxUint64, none), 0},
		{boost(1<<53-1, term(0, "a", 1)), api.Top - unit}, {boost(1<<53, term(0, "a", 1)), api.Top},
		// Sums.
		{list(0, "  ", below, term(0, "a", 1)), api.Top}, {list(0, " ", below), api.Top - unit}, {list(0, "++", below, term(0, "a", 0)), api.Top - unit}, {list(0, "+ ", below, below), api.Top},
		{list(0, "+ -", below, none, below), api.Top - unit}, {list(0, "+-", fixed(1<<44, all), fixed(1<<63, all)), 1 << 62}, {list(0, "++", fixed(1<<44, all), fixed(1<<44, all)), api.Top}, {list(0, "++", fixed(1<<44, all), fixed(1<<44-1, all)), api.Top - api.One},
		{list(0, "++", boost(1<<63, all), boost(1<<63, all)), api.Top}, {list(0, "++ ", fixed(1<<45, all), fixed(1<<45, all), all), api.Top},
		// What isn't multiplied or summed.
		{most(below, below), api.Top - unit}, {most(below, term(0, "a", 1<<53)), api.Top}, {most(fixed(1<<45, all), all), api.Top},
		{not(fixed(1<<45, all)), 0}, {fixed(1, fixed(1<<45, all)), api.One}, {boost(0, list(0, "++", fixed(1<<45, all), fixed(1<<45, all))), 0}, {list(0, "+ ", boost(0, fixed(1<<45, all)), all), api.One},
		{boost(1<<63, fixed(0, all)), 0}, {boost(1<<63, boost(0, fixed(1<<63, all))), 0}, {list(0, " -", fixed(1<<45, all), all), api.Top},
	} {
		if b := mustBound(t, row.q); b != row.want {
			t.Errorf("Bound(%s) is %d, want %d", brief(row.q), b, row.want)
		}
		// What has reached Top stays there, but where it doesn't count.
		for _, wrap := range wraps {
			mustBound(t, wrap(row.q))
		}
	}
}

// P17.4: queries that aren't good over MaxFields fields, or aren't plain, alone and within others.
func TestBoundOfBadQueries(t *testing.T) {
	bad := append(badOnes(), prefix(0, "ab"), wild(0, "a*"), fuzzy(0, 1, "ab"), everything(0))
	for _, q := range bad {
		for _, wrap := range append(wraps, func(q api.Query) api.Query { return q }) {
			if b, err := expand.Bound(wrap(q)); b != 0 || err != api.ErrNode {
				t.Errorf("Bound(%s) is %d, %v", brief(wrap(q)), b, err)
			}
		}
		// A bad query isn't passed over where its bound doesn't count.
		for _, within := range []api.Query{list(0, "+-", all, q), fixed(1, q), not(q), boost(0, q), list(0, "++", boost(1<<63, all), q)} {
			if b, err := expand.Bound(within); b != 0 || err != api.ErrNode {
				t.Errorf("Bound(%s) is %d, %v", brief(within), b, err)
			}
		}
	}
}

// P17.4: many plain queries.
func TestBoundOfMadeQueries(t *testing.T) {
	m := newMaker(175)
	s := mustParse(t, "t:text;k:keyword;n:number")
	kinds := map[string]int{}
	for range 30000 {
		q := m.within(15).query(s, m.weight)
		if bind.Check(q, api.MaxFields, true) != nil {
			kinds["not plain"]++
			if b, err := expand.Bound(q); b != 0 || err != api.ErrNode {
				t.Fatalf("Bound(%s) is %d, %v", brief(q), b, err)
			}
			continue
		}
		switch b := mustBound(t, q); {
		case b == 0:
			kinds["none"]++
		case b == api.Top:
			kinds["top"]++
		default:
			kinds["between"]++
		}
	}
	for _, kind := range []string{"not plain", "none", "top", "between"} {
		if kinds[kind] < 1000 {
			t.Errorf("only %d bounds of the kind %s", kinds[kind], kind)
		}
	}
}

// holdScores holds the scores of the live documents and the bound of a query and of what it is expanded to; it tells how many documents match, and whether the bound is below Top.
func holdScores(t testing.TB, s api.Schema, q api.Query, parts []made) (int, bool) {
	t.Helper()
	c := corpusOf(parts)
	x := mustExpand(t, s, q, parts)
	bound := mustBound(t, x)
	if want := c.bound(q, false); number(bound).Cmp(want) != 0 {
		t.Fatalf("the bound of %s is %d, and that of what it is expanded to %d", brief(q), want, bound)
	}
	hits := 0
	for i := range c.docs {
		before, after := c.meaning(q, i, false), c.meaning(x, i, true)
		if before != after {
			t.Fatalf("%s comes to %v for the document %d, and what it is expanded to, %s, to %v", brief(q), before, i, brief(x), after)
		}
		if bound < api.Top && after.score > bound {
			t.Fatalf("%s comes to %v for the document %d, above the bound %d", brief(x), after, i, bound)
		}
		if after.hit {
			hits++
		}
	}
	return hits, bound < api.Top
}

// P17.3 and P17.4: query and answer mean the same over the live documents, and no score is above the bound.
func TestMeaningOfMadeQueries(t *testing.T) {
	m := newMaker(176)
	hits, below := 0, 0
	for range 300 {
		s := m.schema()
		parts := m.parts(t, s, 1+m.Intn(4))
		for i := range 20 {
			weight := m.small
			if i%4 == 0 {
				weight = m.weight
			}
			q := m.within(15).query(s, weight)
			if corpusOf(parts).count(q) > api.MaxTerms {
				continue
			}
			more, fits := holdScores(t, s, q, parts)
			hits += more
			if fits && more > 0 {
				below++
			}
		}
	}
	if hits < 5000 || below < 1000 {
		t.Errorf("%d documents match, %d queries have a bound below Top and match something", hits, below)
	}
}

// P17.3 and P17.4: what query texts come to, as DOC.md's examples of the whole say.
func TestMeaningOfExamples(t *testing.T) {
	s := mustParse(t, "title:text,fold;tag:keyword")
	docs := inField("title", "Red fox", "The red red dog")
	docs[0].Values = append(docs[0].Values, api.Value{Name: "tag", Text: "a"})
	hit := func(score uint64) match { return match{true, score} }
	miss := match{}
	cuts := [][]made{{mustMake(t, s, docs)}, {mustMake(t, s, docs[1:]), mustMake(t, s, docs[:1])}, {mustMake(t, s, docs, 0), mustMake(t, s, docs, 1)}}
	for text, want := range map[string][2]match{
		"red": {hit(36046), hit(39195)}, "fox": {hit(137728), miss}, "red | fox": {hit(137728), hit(39195)}, "red OR fox": {hit(173774), hit(39195)}, "red^3 -fox": {miss, hit(117585)}, "+red fox^=2": {hit(560334), hit(39195)},
		"*:*": {hit(262144), hit(262144)}, "NOT fox": {miss, hit(0)}, "-fox": {miss, miss}, `"red red"`: {miss, hit(54806)}, "tag:[a TO b}": {hit(119040), miss}, "tag:A": {miss, miss}, "nosuch:x": {miss, miss},
		"r?d AND fo*": {hit(173774), miss}, "red AND fox": {hit(173774), miss}, "rad~1": {hit(36046), hit(39195)}, "rad~2": {hit(72092), hit(78390)}, "(((red^999999999)^999999999)^999999999)^0": {hit(0), hit(0)},
	} {
		q := boundText(t, s, text)
		for i, parts := range cuts {
			holdScores(t, s, q, parts)
			c, x := corpusOf(parts), mustExpand(t, s, q, parts)
			got := [2]match{c.meaning(x, 0, true), c.meaning(x, 1, true)}
			if i > 0 {
				got[0], got[1] = got[1], got[0]
			}
			if got != want {
				t.Errorf("%s comes to %v, want %v", text, got, want)
			}
		}
	}
	one := []made{mustMake(t, s, docs, 1)}
	if got := corpusOf(one).meaning(mustExpand(t, s, boundText(t, s, "red"), one), 0, true); got != hit(49755) {
		t.Errorf("red over one live document comes to %v", got)
	}
	// Ways to reach Top, and not to.
	over := mustBound(t, mustExpand(t, s, boundText(t, s, "((red^999999999)^999999999)^999999999"), cuts[0]))
	if zero := mustBound(t, mustExpand(t, s, boundText(t, s, "(((red^999999999)^999999999)^999999999)^0"), cuts[0])); over != api.Top || zero != 0 {
		t.Errorf("the bounds are %d and %d", over, zero)
	}
	if b := mustBound(t, mustExpand(t, s, boundText(t, s, "rad~2"), cuts[0])); b != 2*1024*score.Idf(2, 2) {
		t.Errorf("the bound of a fuzzy word is %d", b)
	}
	// 1100 unlike words more that begin with w: few of them begin with w1.
	parts := append(cuts[0], mustMake(t, s, renamed(manyWords("w", 1100), "title")))
	for text, want := range map[string]error{"title:w*": api.ErrTerms, "NOT title:w*": api.ErrTerms, "title:w1*": nil, "(title:w* | red)^0": api.ErrTerms, "-title:w? +red": nil} {
		if _, err := expand.Expand(s, boundText(t, s, text), partsOf(parts...)); err != want {
			t.Errorf("%s: %v, want %v", text, err, want)
		}
	}
}

// renamed are documents with all values in the field of this name.
func renamed(docs []api.Doc, name string) []api.Doc {
	for _, d := range docs {
		for i := range d.Values {
			d.Values[i].Name = name
		}
	}
	return docs
}
