package rewrite_test

import (
	"fmt"
	"math"
	"testing"

	"concord/api"
	"concord/bind"
	"concord/cursor"
	"concord/expand"
	"concord/rewrite"
	"concord/score"
)

// match is whether a document matches, and with which score.
type match struct {
	hit   bool
	score uint64
}

func hitOf(hit bool, score uint64) match {
	if !hit {
		return match{}
	}
	return match{true, score}
}

// world is one document, as far as queries see it: which leaves match, and how much their frequencies count (Sat).
type world struct {
	draw func() match
	seen map[string]match
}

// newWorld is a world in which each leaf comes to what is drawn when it is first asked for.
func newWorld(draw func() match) world {
	return world{draw, map[string]match{}}
}

// leaf is what a leaf comes to, without its weight. A phrase of one term comes to what the term does.
func (w world) leaf(q api.Query) match {
	key := fmt.Sprintf("%d %d %q %q %d %d", q.Kind, q.Field, q.Text, q.Terms, q.Offs, q.N)
	switch {
	case q.Kind == api.QTerm:
		key = fmt.Sprintf("%d %q", q.Field, q.Text)
	case len(q.Terms) == 1:
		key = fmt.Sprintf("%d %q", q.Field, q.Terms[0])
	}
	if _, ok := w.seen[key]; !ok {
		w.seen[key] = w.draw()
	}
	return w.seen[key]
}

// meaning is what a query comes to, by DOC.md's section Meaning.
func (w world) meaning(q api.Query) match {
	switch q.Kind {
	case api.QAll:
		return match{true, api.One}
	case api.QHas:
		return hitOf(w.leaf(q).hit, api.One)
	case api.QTerm, api.QPhrase:
		m := w.leaf(q)
		return hitOf(m.hit, q.Weight*m.score)
	case api.QList:
		return w.listMeaning(q)
	case api.QMax:
		var out match
		for _, kid := range q.Kids {
			m := w.meaning(kid)
			out = match{out.hit || m.hit, max(out.score, m.score)}
		}
		return out
	case api.QNot:
		return match{hit: !w.meaning(q.Kids[0]).hit}
	case api.QBoost:
		m := w.meaning(q.Kids[0])
		return hitOf(m.hit, q.Weight*m.score)
	case api.QConst:
		return hitOf(w.meaning(q.Kids[0]).hit, q.Weight*api.One)
	}
	return match{}
}

func (w world) listMeaning(q api.Query) match {
	met, sum := 0, uint64(0)
	for i, kid := range q.Kids {
		m := w.meaning(kid)
		switch {
		case q.Occur[i] == api.MustNot && m.hit, q.Occur[i] == api.Must && !m.hit:
			return match{}
		case q.Occur[i] == api.Should && m.hit:
			met++
		}
		if q.Occur[i] != api.MustNot {
			sum += m.score
		}
	}
	return hitOf(met >= modelNeed(q), sum)
}

// boundOf is the bound of a query.
func boundOf(t testing.TB, q api.Query) uint64 {
	t.Helper()
	x, err := expand.Bound(q)
	if err != nil {
		t.Fatalf("Bound(%s): %v", brief(q), err)
	}
	return x
}

// holdMeaning holds a query against its two forms in worlds; it tells how often it matches.
func holdMeaning(t testing.TB, q api.Query, worlds ...world) int {
	t.Helper()
	normal, err := rewrite.Normal(q)
	bare, bareErr := rewrite.Bare(q)
	if err != nil || bareErr != nil {
		t.Fatalf("%s: %v, %v", brief(q), err, bareErr)
	}
	below := boundOf(t, q) < api.Top
	hits := 0
	for _, w := range worlds {
		want, got, zero := w.meaning(q), w.meaning(normal), w.meaning(bare)
		if got.hit != want.hit || below && got != want {
			t.Fatalf("%s comes to %v, and its normal form %s to %v", brief(q), want, brief(normal), got)
		}
		if zero != hitOf(want.hit, 0) {
			t.Fatalf("%s comes to %v, and its bare form %s to %v", brief(q), want, brief(bare), zero)
		}
		if want.hit {
			hits++
		}
	}
	return hits
}

// drawn draws whether a leaf matches, and how much its frequency counts.
func (m *maker) drawn() match {
	return hitOf(m.Intn(2) == 0, uint64(pickOf(m, 0, 1, 1023, m.Intn(1024))))
}

// often draws a leaf that matches most often, seldom one that doesn't.
func (m *maker) often() match  { return hitOf(m.Intn(5) > 0, uint64(m.Intn(1024))) }
func (m *maker) seldom() match { return hitOf(m.Intn(5) == 0, uint64(m.Intn(1024))) }

// worlds are worlds of every kind.
func (m *maker) worlds() []world {
	greatest := func() match { return match{true, 1023} }
	nothing := func() match { return match{} }
	return []world{newWorld(m.drawn), newWorld(m.drawn), newWorld(m.drawn), newWorld(m.often), newWorld(m.often), newWorld(m.seldom), newWorld(greatest), newWorld(nothing)}
}

// P18.2: made queries mean what their forms mean, whichever leaves match and whatever they count.
func TestMeaningOfMadeQueries(t *testing.T) {
	m := newMaker(182)
	met := kinds{}
	for i := range 30000 {
		weight := []func() uint64{m.small, m.unit, m.weight}[i%3]
		q := m.within(25).query(weight)
		below := boundOf(t, q) < api.Top
		hits := holdMeaning(t, q, m.worlds()...)
		met.note("never", hits == 0)
		met.note("always", hits == 8)
		met.note("below Top", below && hits > 0)
		met.note("at Top", !below && hits > 0)
		met.note("just here and there", hits > 0 && hits < 8)
	}
	met.wantMany(t, 1500, "never", "always", "below Top", "at Top", "just here and there")
}

// P18.2: lists of all kinds of kids.
func TestMeaningOfSmallLists(t *testing.T) {
	m := newMaker(183)
	hold := func(q api.Query) { holdMeaning(t, q, m.worlds()...) }
	eachList(1, smallKids(), hold)
	eachList(2, smallKids(), hold)
}

// P18.2: lists of up to six terms, in others or not, over all sets of those that match.
func TestMeaningOverAllSets(t *testing.T) {
	m := newMaker(184)
	names := []string{"a", "b", "c", "d", "e", "f"}
	var sets []world
	for set := range 1 << len(names) {
		w := newWorld(nil)
		for i, name := range names {
			w.seen[fmt.Sprintf("0 %q", name)] = hitOf(set>>i&1 > 0, uint64(1000+i))
		}
		sets = append(sets, w)
	}
	for range 3000 {
		var kids []api.Query
		signs := ""
		for _, name := range names[:1+m.Intn(6)] {
			kid := term(0, name, 1<<m.Intn(8))
			for range m.Intn(3) {
				kid = pickOf(m, not(kid), shoulds(0, kid, kid), musts(kid), boost(2, kid), list(0, "+-", all, kid), list(0, "+ ", idle, kid), most(kid, all))
			}
			kids, signs = append(kids, kid), signs+pickOf(m, " ", " ", "+", "-")
		}
		holdMeaning(t, list(m.Intn(5), signs, kids...), sets...)
	}
}

// P18.2: a phrase of one term means what the term does: whatever its offset and its slop, it stands as often.
func TestPhraseOfOneTerm(t *testing.T) {
	for _, places := range [][]int{{0}, {3, 4, 9}, {api.EndDoc - 1}, {0, 5, api.EndDoc - 1}} {
		for _, off := range []int{0, 1, 7, api.EndDoc - 1} {
			for _, slop := range []int{0, 1, 2, 100, api.MaxNumber} {
				if n := cursor.PhraseFreq([][]int{places}, []int{off}, slop); n != len(places) {
					t.Errorf("PhraseFreq(%v, %d, %d) is %d", places, off, slop, n)
				}
			}
		}
	}
}

// P18.2 and P18.5: where the bound is just below Top, scores stay the same and no bound grows; one boost more, and it reaches Top.
func TestJustBelowTop(t *testing.T) {
	m := newMaker(185)
	met := kinds{}
	greatest := newWorld(func() match { return match{true, 1023} })
	for range 20000 {
		q := m.within(15).query(m.small)
		bound := boundOf(t, q)
		if bound == 0 {
			continue
		}
		most := (api.Top - 1) / bound
		near := boost(most, q)
		if m.Intn(2) == 0 {
			near = m.pushed(most, q)
		}
		was := boundOf(t, near)
		if was >= api.Top || was < api.Top-bound {
			t.Fatalf("the bound of %s is %d", brief(near), was)
		}
		holdMeaning(t, near, append(m.worlds(), greatest)...)
		is := boundOf(t, mustNormal(t, near))
		if is > was {
			t.Fatalf("the bound of %s is %d, that of its normal form %s is %d", brief(near), was, brief(mustNormal(t, near)), is)
		}
		met.note("the same bound", is == was)
		met.note("a lower bound", is < was)
		over := boost(most+1, q)
		holdMeaning(t, over, append(m.worlds(), greatest)...)
		met.note("reaches Top", boundOf(t, over) == api.Top)
	}
	met.wantMany(t, 1000, "the same bound", "a lower bound", "reaches Top")
}

// pushed is a query with the weight of all that counts in it times w: the bound is w times the one it was.
func (m *maker) pushed(w uint64, q api.Query) api.Query {
	out := q
	switch q.Kind {
	case api.QTerm, api.QPhrase, api.QBoost, api.QConst:
		out.Weight *= w
		return out
	case api.QList, api.QMax:
		out.Kids = nil
		for i, kid := range q.Kids {
			if q.Kind == api.QMax || q.Occur[i] != api.MustNot {
				kid = m.pushed(w, kid)
			}
			out.Kids = append(out.Kids, kid)
		}
		return out
	}
	return boost(w, q)
}

// P18.2: what doesn't count may wrap round, and so it does.
func TestMeaningOfRows(t *testing.T) {
	big := boost(math.MaxUint64, boost(1<<40+3, shoulds(0, a, all)))
	m := newMaker(186)
	for _, q := range []api.Query{
		boost(0, big), fixed(3, big), not(big), list(0, "+-", a, big), boost(1<<40, fixed(0, big)), boost(1<<40, not(big)), musts(a, boost(0, big)), most(fixed(1, big), a), list(0, "+ ", a, fixed(2, big)), boost(1<<63, boost(2, not(a))), boost(1<<63, boost(2, a0)), big, shoulds(0, big, a), most(big, big),
		boost(0, most(boost(1<<63, all), a)), list(0, "+--", a, big, not(big)),
	} {
		for range 20 {
			holdMeaning(t, q, m.worlds()...)
		}
	}
}

// P18.2: by real frequencies and lengths, as DOC.md's examples of the whole have them.
func TestMeaningOfExamples(t *testing.T) {
	// The documents "Red fox" and "The red red dog", with N 2, and the average length 3.
	red, fox := term(0, "red", score.Idf(2, 2)), term(0, "fox", score.Idf(2, 1))
	first, second := newWorld(nil), newWorld(nil)
	first.seen[`0 "red"`], first.seen[`0 "fox"`] = match{true, score.Sat(1, 2, 3)}, match{true, score.Sat(1, 2, 3)}
	second.seen[`0 "red"`], second.seen[`0 "fox"`] = match{true, score.Sat(2, 4, 3)}, match{}
	hit := func(score uint64) match { return match{true, score} }
	for _, x := range []struct {
		q          api.Query
		one, other match
	}{
		{red, hit(36046), hit(39195)}, {most(red, fox), hit(137728), hit(39195)}, {shoulds(0, red, fox), hit(173774), hit(39195)}, {list(0, " -", boost(3, red), fox), match{}, hit(117585)}, {list(0, "+ ", red, fixed(2, fox)), hit(560334), hit(39195)},
		{not(fox), match{}, hit(0)}, {list(0, "-", fox), match{}, match{}}, {boost(0, boost(999999999, boost(999999999, boost(999999999, red)))), hit(0), hit(0)},
	} {
		holdMeaning(t, x.q, first, second)
		n := mustNormal(t, x.q)
		if got := [2]match{first.meaning(n), second.meaning(n)}; got != [2]match{x.one, x.other} {
			t.Errorf("the normal form of %s comes to %v", bind.Text(x.q), got)
		}
	}
}
