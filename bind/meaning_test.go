package bind_test

import (
	"slices"
	"strings"
	"testing"

	"concord/api"
	"concord/auto"
	"concord/bind"
	"concord/cursor"
	"concord/printer"
	"concord/score"
	"concord/tokens"
)

// corpus is live documents, by their fields: the positions of each term, and the length.
type corpus struct {
	docs [][]column
}

type column struct {
	places map[string][]int
	length int
}

func newCorpus(s api.Schema, docs []api.Doc) corpus {
	var c corpus
	for _, d := range docs {
		var columns []column
		for i := range s.Fields {
			col := column{places: map[string][]int{}}
			for _, t := range tokens.Field(s, i, d.Values) {
				col.places[t.Text] = append(col.places[t.Text], t.Pos)
				col.length++
			}
			columns = append(columns, col)
		}
		c.docs = append(c.docs, columns)
	}
	return c
}

func (c corpus) df(field int, text string) int {
	n := 0
	for _, d := range c.docs {
		if len(d[field].places[text]) > 0 {
			n++
		}
	}
	return n
}

func (c corpus) idf(field int, text string) uint64 {
	return score.Idf(len(c.docs), c.df(field, text))
}

func (c corpus) sat(field, doc, freq int) uint64 {
	sum := 0
	for _, d := range c.docs {
		sum += d[field].length
	}
	return score.Sat(freq, c.docs[doc][field].length, sum/max(len(c.docs), 1))
}

// match is whether a document matches, and with which score.
type match struct {
	hit   bool
	score uint64
}

// meaning is what a bound query comes to for a document, by DOC.md's section Meaning.
func (c corpus) meaning(q api.Query, doc int) match {
	switch q.Kind {
	case api.QAll:
		return match{true, api.One}
	case api.QHas:
		return hitOf(c.docs[doc][q.Field].length >= 1, api.One)
	case api.QTerm:
		freq := len(c.docs[doc][q.Field].places[q.Text])
		return hitOf(freq >= 1, c.idf(q.Field, q.Text)*c.sat(q.Field, doc, freq))
	case api.QPhrase:
		var lists [][]int
		sum := uint64(0)
		for _, text := range q.Terms {
			lists = append(lists, c.docs[doc][q.Field].places[text])
			sum += c.idf(q.Field, text)
		}
		freq := cursor.PhraseFreq(lists, q.Offs, q.N)
		return hitOf(freq >= 1, sum*c.sat(q.Field, doc, freq))
	case api.QPrefix, api.QWild, api.QFuzzy, api.QSpan:
		return c.manyTerms(q, doc)
	case api.QList:
		return c.list(q, doc)
	case api.QMax:
		var out match
		for _, kid := range q.Kids {
			m := c.meaning(kid, doc)
			out = match{out.hit || m.hit, max(out.score, m.score)}
		}
		return out
	case api.QNot:
		return match{hit: !c.meaning(q.Kids[0], doc).hit}
	case api.QBoost:
		m := c.meaning(q.Kids[0], doc)
		return hitOf(m.hit, q.Weight*m.score)
	case api.QConst:
		return hitOf(c.meaning(q.Kids[0], doc).hit, q.Weight*api.One)
	}
	return match{}
}

func hitOf(hit bool, score uint64) match {
	if !hit {
		return match{}
	}
	return match{true, score}
}

func (c corpus) manyTerms(q api.Query, doc int) match {
	var a *auto.Auto
	switch q.Kind {
	case api.QPrefix:
		a = auto.Prefix(q.Text)
	case api.QWild:
		a, _ = auto.Wild(q.Text)
	case api.QFuzzy:
		a, _ = auto.Fuzzy(q.Text, q.N)
	case api.QSpan:
		a = auto.Span(q.Lo, q.Hi)
	}
	var out match
	for text, places := range c.docs[doc][q.Field].places {
		if !a.Accepts(text) {
			continue
		}
		u := uint64(1)
		if q.Kind == api.QFuzzy {
			u = uint64(q.N + 1 - auto.Edits(q.Text, text, q.N))
		}
		out = match{true, out.score + u*c.idf(q.Field, text)*c.sat(q.Field, doc, len(places))}
	}
	return out
}

func (c corpus) list(q api.Query, doc int) match {
	musts, shoulds, sum := 0, 0, uint64(0)
	for i, kid := range q.Kids {
		m := c.meaning(kid, doc)
		switch {
		case q.Occur[i] == api.MustNot && m.hit, q.Occur[i] == api.Must && !m.hit:
			return match{}
		case q.Occur[i] == api.Must:
			musts++
		case q.Occur[i] == api.Should && m.hit:
			shoulds++
		}
		if q.Occur[i] != api.MustNot {
			sum += m.score
		}
	}
	need := q.N
	if need == 0 && musts == 0 {
		need = 1
	}
	return hitOf(shoulds >= need, sum)
}

// docs are documents over a schema, of the words that trees are made of.
func (m *maker) docs(s api.Schema, n int) []api.Doc {
	docs := make([]api.Doc, n)
	for i := range docs {
		docs[i].Id = i
		for range m.Intn(2 * len(s.Fields)) {
			f := s.Fields[m.Intn(len(s.Fields))]
			text := m.pick("7", "-7", "42", "0")
			if f.Kind != api.KindNumber {
				text = m.pick(words...)
			}
			for f.Kind == api.KindText && m.Intn(4) > 0 {
				text += " " + m.pick(words...)
			}
			docs[i].Values = append(docs[i].Values, api.Value{Name: f.Name, Text: text})
		}
	}
	return docs
}

// holdCanon says that a tree's query and that of its canonical form match the same documents with the same scores; it tells how many match, and whether the queries differ.
func holdCanon(t testing.TB, s api.Schema, n api.Node, docs []api.Doc) (int, bool) {
	t.Helper()
	canon, err := printer.Canon(n)
	if err != nil {
		t.Fatal(err)
	}
	q, p := mustBind(t, s, n), mustBind(t, s, canon)
	c := newCorpus(s, docs)
	hits := 0
	for i := range docs {
		x, y := c.meaning(q, i), c.meaning(p, i)
		if x != y {
			t.Fatalf("%s is bound to %s, which comes to %v, and its canonical form to %s, which comes to %v", brief(n), bind.Text(q), x, bind.Text(p), y)
		}
		if x.hit {
			hits++
		}
	}
	return hits, !alike(q, p)
}

// wordTree is a tree of few leaves that most documents have, with many nodes of one kid.
func (m *maker) wordTree(s api.Schema) api.Node {
	m.room--
	if m.room <= 0 || m.Intn(5) == 0 {
		leaf := api.Node{Kind: api.NTerm, Text: m.pick(words...), Field: s.Fields[m.Intn(len(s.Fields))].Name}
		if m.Intn(6) == 0 {
			return api.Node{Kind: api.NHas, Field: leaf.Field}
		}
		return leaf
	}
	switch m.Intn(6) {
	case 0:
		return node([]int{api.NAnd, api.NOr, api.NMax}[m.Intn(3)], 0, "", m.wordTree(s))
	case 1:
		return node(api.NList, m.Intn(2), m.pick(" ", " ", "+", "-"), m.wordTree(s))
	case 2:
		return node(api.NNot, 0, "", m.wordTree(s))
	case 3:
		return node([]int{api.NBoost, api.NConst}[m.Intn(2)], m.number(), "", m.wordTree(s))
	case 4:
		return node(api.NList, m.Intn(3), m.pick("  ", "+ ", "- ", "++", " -", "--"), m.wordTree(s), m.wordTree(s))
	}
	return node([]int{api.NAnd, api.NOr, api.NMax}[m.Intn(3)], 0, "", m.wordTree(s), m.wordTree(s))
}

// P16.3: many good trees and their canonical forms over many documents.
func TestCanonMeansTheSame(t *testing.T) {
	m := newMaker(163)
	hits, unlike := 0, 0
	for range 400 {
		s := m.schema()
		docs := m.docs(s, m.Intn(8))
		for i := range 20 {
			n := m.within(20).tree(s)
			if i%2 == 0 {
				n = m.within(20).wordTree(s)
			}
			more, differ := holdCanon(t, s, n, docs)
			hits += more
			if differ {
				unlike++
			}
		}
	}
	if hits < 5000 || unlike < 2000 {
		t.Errorf("%d documents match, %d queries differ from that of the canonical form", hits, unlike)
	}
}

// P16.3: each node of one kid, over every kind of kid, over documents of which some match.
func TestIdleNodesMeanTheSame(t *testing.T) {
	s := mustParse(t, "t:text,fold,stop;k:keyword;n:number")
	docs := []api.Doc{
		{Id: 0, Values: []api.Value{{Name: "t", Text: "Red fox"}, {Name: "k", Text: "a"}, {Name: "n", Text: "7"}}},
		{Id: 1, Values: []api.Value{{Name: "t", Text: "the red red dog"}}},
		{Id: 2, Values: []api.Value{{Name: "k", Text: "b"}, {Name: "n", Text: "-7"}}},
		{Id: 3},
	}
	wraps := []func(n api.Node) api.Node{
		func(n api.Node) api.Node { return node(api.NAnd, 0, "", n) },
		func(n api.Node) api.Node { return node(api.NOr, 0, "", n) },
		func(n api.Node) api.Node { return node(api.NMax, 0, "", n) },
		func(n api.Node) api.Node { return node(api.NList, 0, " ", n) },
	}
	hits := 0
	for _, q := range []string{"red", "the", "nosuch:a", "fox", "r*", "r?d", "rad~1", "[a TO g]", "*", "k:*", "*:*", "k:a", "n:[0 TO *]", "red fox", "+red -fox", "+the", "-fox", "-the", "(red fox k:b)@2", "(red)@1", "(the)@1", "red AND fox", "red OR the", "red | fox", "NOT red", "NOT the", "red^3", "red^=3", "(-red)^2", "+(NOT fox) red^0", `"red red"`, `"red dog fox"~9`, `"the red"`} {
		n := treeOf(t, q)
		for _, one := range wraps {
			for _, two := range wraps {
				for _, tree := range []api.Node{n, one(n), one(two(n)), node(api.NNot, 0, "", one(n)), node(api.NList, 0, "+ ", one(n), two(n)), node(api.NList, 1, " -", one(n), node(api.NNot, 0, "", two(n))), node(api.NMax, 0, "", one(n), two(n)), node(api.NBoost, 2, "", one(n))} {
					more, _ := holdCanon(t, s, tree, docs)
					hits += more
				}
			}
		}
	}
	if hits < 1000 {
		t.Errorf("%d documents match", hits)
	}
}

// P16.1 and P16.3: what query texts come to, as DOC.md's examples of the whole say.
func TestMeaningOfExamples(t *testing.T) {
	s := mustParse(t, "title:text,fold;tag:keyword")
	docs := []api.Doc{
		{Id: 0, Values: []api.Value{{Name: "title", Text: "Red fox"}, {Name: "tag", Text: "a"}}},
		{Id: 1, Values: []api.Value{{Name: "title", Text: "The red red dog"}}},
	}
	hit := func(score uint64) match { return match{true, score} }
	miss := match{}
	c := newCorpus(s, docs)
	for q, want := range map[string][]match{
		"red": {hit(36046), hit(39195)}, "fox": {hit(137728), miss}, "red | fox": {hit(137728), hit(39195)}, "red OR fox": {hit(173774), hit(39195)}, "red^3 -fox": {miss, hit(117585)}, "+red fox^=2": {hit(560334), hit(39195)},
		"*:*": {hit(262144), hit(262144)}, "NOT fox": {miss, hit(0)}, "-fox": {miss, miss}, `"red red"`: {miss, hit(54806)}, "tag:[a TO b}": {hit(119040), miss}, "tag:A": {miss, miss}, "nosuch:x": {miss, miss},
		"r?d AND fo*": {hit(173774), miss}, "red AND fox": {hit(173774), miss}, "rad~1": {hit(36046), hit(39195)}, "rad~2": {hit(72092), hit(78390)}, "((red^999999999)^999999999)^999999999^0": {hit(0), hit(0)},
	} {
		bound := mustBind(t, s, treeOf(t, q))
		if got := []match{c.meaning(bound, 0), c.meaning(bound, 1)}; !slices.Equal(got, want) {
			t.Errorf("%s comes to %v, want %v", q, got, want)
		}
	}
	if got := newCorpus(s, docs[:1]).meaning(mustBind(t, s, treeOf(t, "red")), 0); got != hit(49755) {
		t.Errorf("red over one document comes to %v", got)
	}
	// Words that are left out, and lists of which must-nots alone are left.
	s.Fields[0].Stop, s.Fields[0].Stem = true, true
	c = newCorpus(s, docs)
	for q, same := range map[string]string{"+the +red": "+red", "NOT the": "-red", "dogs -the": "dog", "the -dog": "-dog", "the": "tag:zz", `"the foxes of"`: "fox", "(the red)@2": "(red)@2", "RED*": "red*", strings.Repeat("x", 70) + " red": "red"} {
		for i := range docs {
			got, want := c.meaning(mustBind(t, s, treeOf(t, q)), i), c.meaning(mustBind(t, s, treeOf(t, same)), i)
			if got != want {
				t.Errorf("%s comes to %v, %s to %v", q, got, same, want)
			}
		}
	}
}
