package expand_test

import (
	"fmt"
	"strings"
	"testing"

	"concord/api"
	"concord/bind"
	"concord/expand"
	"concord/score"
	"concord/segment"
)

// mustExpand is a query expanded, held against the model and against what is told of all expanded queries.
func mustExpand(t testing.TB, s api.Schema, q api.Query, parts []made) api.Query {
	t.Helper()
	x, err := expand.Expand(s, q, partsOf(parts...))
	if err != nil {
		t.Fatalf("Expand(%s): %v", brief(q), err)
	}
	if want := corpusOf(parts).expanded(q); !alike(x, want) {
		t.Fatalf("Expand(%s) is %s, want %s", brief(q), brief(x), brief(want))
	}
	if err := bind.Check(x, len(s.Fields), true); err != nil {
		t.Fatalf("Expand(%s) is %s, which isn't good and plain", brief(q), brief(x))
	}
	return x
}

// wantExpand says what a query is expanded to, alone and within others.
func wantExpand(t testing.TB, s api.Schema, q api.Query, parts []made, want api.Query) {
	t.Helper()
	if x := mustExpand(t, s, q, parts); !alike(x, want) {
		t.Fatalf("Expand(%s) is %s, want %s", brief(q), brief(x), brief(want))
	}
	for _, wrap := range wraps {
		if x := mustExpand(t, s, wrap(q), parts); !alike(x, wrap(want)) {
			t.Fatalf("Expand(%s) is %s, want %s", brief(wrap(q)), brief(x), brief(wrap(want)))
		}
		for _, more := range wraps {
			if x := mustExpand(t, s, more(wrap(q)), parts); !alike(x, more(wrap(want))) {
				t.Fatalf("Expand(%s) is %s, want %s", brief(more(wrap(q))), brief(x), brief(more(wrap(want))))
			}
		}
	}
}

// wantError says which error Expand answers, and that there is nothing beside it.
func wantError(t testing.TB, s api.Schema, q api.Query, parts []*segment.Part, want error) {
	t.Helper()
	x, err := expand.Expand(s, q, parts)
	if err != want || !alike(x, api.Query{}) {
		t.Fatalf("Expand(%s) over %v is %s, %v, want %v", brief(q), s, brief(x), err, want)
	}
}

// P17.3: the chapter's examples, and every kind of leaf: with df 0, with df of some and of all live documents.
func TestExpandRows(t *testing.T) {
	s, cuts := exampleParts(t)
	two, one := score.Idf(3, 2), score.Idf(3, 1)
	ab, abc, b, x := term(0, "ab", two), term(0, "abc", one), term(0, "b", one), term(0, "x", one)
	for _, row := range []struct{ q, want api.Query }{
		{none, none}, {all, all}, {has(0), has(0)},
		{term(0, "ab", 0), ab}, {term(0, "abc", 0), abc}, {term(0, "abd", 0), none}, {term(0, "q", 0), none}, {term(0, "", 0), none}, {term(0, "abc\x00", 0), none},
		{phrase(0, 0, 0, "ab"), phrase(0, 0, two, "ab")},
		{phrase(0, 0, 0, "ab b"), phrase(0, 0, two+one, "ab b")},
		{phrase(0, 7, 0, "ab b ab"), phrase(0, 7, two+one+two, "ab b ab")},
		{phrase(0, api.MaxNumber, 0, "x x x x"), phrase(0, api.MaxNumber, 4*one, "x x x x")},
		{phrase(0, 0, 0, "abd ab"), none}, {phrase(0, 0, 0, "ab abd"), none}, {phrase(0, 0, 0, "ab q b"), none}, {phrase(0, 0, 0, "abd"), none},
		{prefix(0, "ab"), list(0, "  ", ab, abc)}, {prefix(0, "abc"), list(0, " ", abc)}, {prefix(0, "abd"), none}, {prefix(0, "q"), none}, {prefix(0, ""), list(0, "    ", ab, abc, b, x)},
		{wild(0, "?"), list(0, "  ", b, x)}, {wild(0, "ab"), list(0, " ", ab)}, {wild(0, "a*d"), none}, {wild(0, "*"), list(0, "    ", ab, abc, b, x)},
		{fuzzy(0, 1, "ab"), list(0, "   ", boost(2, ab), abc, b)},
		{fuzzy(0, 0, "ab"), list(0, " ", ab)}, {fuzzy(0, 0, "abd"), none}, {fuzzy(0, 1, "abcd"), list(0, " ", abc)}, {fuzzy(0, 2, "qqqqq"), none},
		{fuzzy(0, 2, "ab"), list(0, "    ", boost(3, ab), boost(2, abc), boost(2, b), x)},
		{fuzzy(0, 2, "abx"), list(0, "    ", boost(2, ab), boost(2, abc), b, x)},
		{fuzzy(0, 2, ""), list(0, "   ", ab, boost(2, b), boost(2, x))},
		{everything(0), list(0, "    ", ab, abc, b, x)}, {span(0, without("ab"), within("b")), list(0, "  ", abc, b)}, {span(0, within("abd"), within("abd")), none}, {span(0, within("x"), within("b")), none},
		{list(2, "+ -", prefix(0, "abc"), term(0, "abd", 0), wild(0, "q")), list(2, "+ -", list(0, " ", abc), none, none)},
		{most(phrase(0, 0, 0, "q"), fuzzy(0, 1, "b")), most(none, list(0, "   ", ab, boost(2, b), x))},
		{not(prefix(0, "q")), not(none)}, {boost(0, prefix(0, "x")), boost(0, list(0, " ", x))}, {fixed(1<<63, term(0, "b", 0)), fixed(1<<63, b)},
	} {
		for _, parts := range cuts {
			wantExpand(t, s, row.q, parts, row.want)
		}
	}
}

// P17.3: df of all live documents, and of one in many parts.
func TestExpandCommonTerms(t *testing.T) {
	s := mustParse(t, "t:text;k:keyword")
	both := func(texts ...string) []api.Doc {
		docs := inField("t", texts...)
		for i := range docs {
			docs[i].Values = append(docs[i].Values, api.Value{Name: "k", Text: "same"})
		}
		return docs
	}
	parts := []made{mustMake(t, s, both("all all", "all rare")), mustMake(t, s, both("all", "gone"), 1), mustMake(t, s, both("all"))}
	idf := func(df int) uint64 { return score.Idf(4, df) }
	wantExpand(t, s, term(0, "all", 0), parts, term(0, "all", idf(4)))
	wantExpand(t, s, term(1, "same", 0), parts, term(1, "same", idf(4)))
	wantExpand(t, s, term(1, "all", 0), parts, none)
	wantExpand(t, s, term(0, "gone", 0), parts, none)
	wantExpand(t, s, phrase(0, 0, 0, "all rare all"), parts, phrase(0, 0, 2*idf(4)+idf(1), "all rare all"))
	wantExpand(t, s, phrase(1, 0, 0, "same same"), parts, phrase(1, 0, 2*idf(4), "same same"))
	wantExpand(t, s, prefix(0, "a"), parts, list(0, " ", term(0, "all", idf(4))))
	wantExpand(t, s, wild(1, "s*"), parts, list(0, " ", term(1, "same", idf(4))))
	wantExpand(t, s, fuzzy(0, 2, "alla"), parts, list(0, " ", boost(2, term(0, "all", idf(4)))))
	wantExpand(t, s, span(0, open(), open()), parts, list(0, "  ", term(0, "all", idf(4)), term(0, "rare", idf(1))))
	wantExpand(t, s, span(1, open(), open()), parts, list(0, " ", term(1, "same", idf(4))))
	// A part that stands in the list twice counts twice, in N and in df.
	twice := append(parts, parts[0])
	wantExpand(t, s, term(0, "rare", 0), twice, term(0, "rare", score.Idf(6, 2)))
	wantExpand(t, s, term(0, "all", 0), twice, term(0, "all", score.Idf(6, 6)))
	wantExpand(t, s, prefix(0, "r"), twice, list(0, " ", term(0, "rare", score.Idf(6, 2))))
	// Where the rarity would be 0 it is 1.
	many := []made{mustMake(t, s, both(strings.Split(strings.Repeat("all|", 400)+"all", "|")...))}
	if score.Idf(401, 401) != 1 {
		t.Fatal("the rarity of a term of all documents isn't 1")
	}
	wantExpand(t, s, prefix(0, "a"), many, list(0, " ", term(0, "all", 1)))
}

// P17.3: without parts, and over parts without live documents, there are no terms.
func TestExpandOverNothing(t *testing.T) {
	s := mustParse(t, "t:text;k:keyword")
	gone := mustMake(t, s, inField("t", "ab", "abc"), 0, 1)
	for _, parts := range [][]made{nil, {mustMake(t, s, nil)}, {mustMake(t, s, []api.Doc{{Id: 1}})}, {gone, gone}} {
		for _, q := range []api.Query{none, term(0, "ab", 9), phrase(0, 0, 9, "ab"), prefix(0, ""), wild(1, "*"), fuzzy(0, 2, "ab"), everything(0)} {
			wantExpand(t, s, q, parts, none)
		}
		wantExpand(t, s, all, parts, all)
		wantExpand(t, s, has(1), parts, has(1))
	}
}

// P17.3: words at each number of edits, of N 0, 1 and 2.
func TestExpandFuzzy(t *testing.T) {
	s := mustParse(t, "t:text")
	texts := []string{"kitten", "sitten", "kittens", "itten", "sittens", "kit", "kitt", "iten", "sitting", "xkitten", "kitte", "tikten", "ikttens", "k"}
	parts := []made{mustMake(t, s, inField("t", texts[:5]...)), mustMake(t, s, inField("t", texts[5:]...))}
	for n := range 3 {
		x := mustExpand(t, s, fuzzy(0, n, "kitten"), parts)
		got := map[string]int{}
		for _, kid := range x.Kids {
			edits := n
			if kid.Kind == api.QBoost {
				edits = n + 1 - int(kid.Weight)
				kid = kid.Kids[0]
			}
			if kid.Kind != api.QTerm || kid.Weight != score.Idf(14, 1) {
				t.Errorf("N %d: a kid is %s", n, brief(kid))
			}
			got[kid.Text] = edits
		}
		for _, text := range texts {
			edits, ok := got[text]
			if want := modelEdits("kitten", text); ok != (want <= n) || ok && edits != want {
				t.Errorf("N %d: %s, which is %d edits away, is told as %d, %v", n, text, want, edits, ok)
			}
		}
	}
	// u of the whole QFuzzy: 1 isn't boosted, 2 and 3 are.
	idf := score.Idf(14, 1)
	wantExpand(t, s, fuzzy(0, 2, "kit"), parts, list(0, "    ", term(0, "k", idf), boost(3, term(0, "kit", idf)), boost(2, term(0, "kitt", idf)), term(0, "kitte", idf)))
}

// P17.3: what Weight a leaf bears isn't looked at.
func TestExpandWeights(t *testing.T) {
	s, cuts := exampleParts(t)
	for _, w := range []uint64{0, 1, score.Idf(3, 2), 1 << 18, 1 << 63, 1<<64 - 1} {
		wantExpand(t, s, term(0, "ab", w), cuts[1], term(0, "ab", score.Idf(3, 2)))
		wantExpand(t, s, term(0, "abd", w), cuts[1], none)
		wantExpand(t, s, phrase(0, 2, w, "ab x"), cuts[1], phrase(0, 2, score.Idf(3, 2)+score.Idf(3, 1), "ab x"))
		wantExpand(t, s, phrase(0, 2, w, "ab abd"), cuts[1], none)
		wantExpand(t, s, boost(w, has(0)), cuts[1], boost(w, has(0)))
		wantExpand(t, s, fixed(w, term(0, "b", w)), cuts[1], fixed(w, term(0, "b", score.Idf(3, 1))))
	}
	// What is expanded already stays.
	for _, q := range []api.Query{prefix(0, "ab"), fuzzy(0, 2, "ab"), not(everything(0)), list(0, "+-", phrase(0, 0, 0, "ab ab"), wild(0, "q"))} {
		x := mustExpand(t, s, q, cuts[1])
		wantExpand(t, s, x, cuts[1], x)
	}
}

// P17.3: in the answer, nothing stands that a kind doesn't have.
func TestExpandLeavesNothingOver(t *testing.T) {
	s, cuts := exampleParts(t)
	for _, q := range []api.Query{prefix(0, "ab"), prefix(0, "q"), wild(0, "?b"), fuzzy(0, 2, "ab"), fuzzy(0, 0, "ab"), fuzzy(0, 1, "q q q"), span(0, within("a"), without("c")), span(0, within("c"), without("a")), term(0, "abd", 9), phrase(0, 9, 9, "abd ab")} {
		x := mustExpand(t, s, q, cuts[1])
		kinds := map[int]api.Query{api.QNone: none, api.QList: {Kind: api.QList, Occur: x.Occur}}
		if !alike(bare(x), bare(kinds[x.Kind])) {
			t.Errorf("%s is expanded to %s", brief(q), brief(x))
		}
		for _, kid := range x.Kids {
			if kid.Kind == api.QBoost && !alike(bare(kid), api.Query{Kind: api.QBoost, Weight: kid.Weight}) {
				t.Errorf("%s has the kid %s", brief(q), brief(kid))
			}
			if kid.Kind == api.QTerm && !alike(kid, term(0, kid.Text, kid.Weight)) {
				t.Errorf("%s has the kid %s", brief(q), brief(kid))
			}
		}
	}
	// Empty lists with room are none.
	q := term(0, "ab", 0)
	q.Terms, q.Offs, q.Occur, q.Kids = make([]string, 0, 3), make([]int, 0, 3), make([]int, 0, 3), make([]api.Query, 0, 3)
	wantExpand(t, s, q, cuts[0], term(0, "ab", score.Idf(3, 2)))
	q.Kind, q.Text = api.QAll, ""
	wantExpand(t, s, q, cuts[0], all)
}

// asked is what Expand is asked.
type asked struct {
	s     api.Schema
	q     api.Query
	parts []*segment.Part
}

// P17.3: each error alone and each two at once, in the chapter's order.
func TestExpandErrors(t *testing.T) {
	s := mustParse(t, "t:text;k:keyword")
	other := mustParse(t, "t:text;k:keyword;n:number")
	part := mustMake(t, s, manyWords("w", api.MaxTerms+1)).part
	faults := []struct {
		name string
		err  error
		make func(x *asked)
	}{
		{"a name twice", api.ErrSchema, func(x *asked) { x.s = api.Schema{Fields: []api.Field{s.Fields[0], s.Fields[0]}} }},
		{"another part behind", api.ErrSchema, func(x *asked) { x.parts = append(x.parts, mustMake(t, other, nil).part) }},
		{"another part ahead", api.ErrSchema, func(x *asked) { x.parts = append([]*segment.Part{mustMake(t, other, nil).part}, x.parts...) }},
		{"no query", api.ErrNode, func(x *asked) { x.q = list(0, "  ", x.q, api.Query{}) }},
		{"a field that isn't there", api.ErrNode, func(x *asked) { x.q = list(0, "+ ", has(2), x.q) }},
		{"words of a phrase", api.ErrTerms, func(x *asked) { x.q = list(0, " +", x.q, phrase(0, 0, 0, strings.Repeat("q ", api.MaxTerms+1))) }},
		{"a must-not of many terms", api.ErrTerms, func(x *asked) { x.q = list(0, " -", x.q, not(prefix(0, "w"))) }},
	}
	for i, one := range faults {
		for j, two := range faults {
			x := asked{s, term(0, "w1", 0), []*segment.Part{part}}
			one.make(&x)
			if i != j {
				two.make(&x)
			}
			_, err := expand.Expand(x.s, x.q, x.parts)
			if want := faults[min(i, j)].err; err != want {
				t.Errorf("%s and %s: %v, want %v", one.name, two.name, err, want)
			}
			wantError(t, x.s, x.q, x.parts, faults[min(i, j)].err)
		}
	}
	// The same things without a fault.
	if x, err := expand.Expand(s, list(0, "+ ", has(1), term(0, "w1", 0)), []*segment.Part{part, part}); err != nil || x.Kids[1].Weight == 0 {
		t.Errorf("without a fault: %s, %v", brief(x), err)
	}
}

// P17.3: schemas that aren't good, and parts over schemas that differ in one thing.
func TestExpandSchemas(t *testing.T) {
	field := func(name string, kind int) api.Field { return api.Field{Name: name, Kind: kind} }
	folded := api.Field{Name: "k", Kind: api.KindKeyword, Fold: true}
	wide := make([]api.Field, api.MaxFields+1)
	for i := range wide {
		wide[i] = field(fmt.Sprintf("f%d", i), api.KindText)
	}
	for _, fields := range [][]api.Field{nil, {}, {field("", 1)}, {field("T", 1)}, {field("t", 0)}, {field("t", 4)}, {field("t", 1), field("t", 2)}, {folded}, {field(strings.Repeat("t", api.MaxName+1), 1)}, wide} {
		for _, q := range []api.Query{all, term(0, "a", 0), {}} {
			wantError(t, api.Schema{Fields: fields}, q, nil, api.ErrSchema)
		}
	}
	if _, err := expand.Expand(api.Schema{Fields: wide[:api.MaxFields]}, has(15), nil); err != nil {
		t.Errorf("MaxFields fields: %v", err)
	}
	s := mustParse(t, "t:text,fold;k:keyword")
	same := mustMake(t, s, inField("k", "a")).part
	for _, text := range []string{"t:text;k:keyword", "t:text,fold,stop;k:keyword", "t:text,fold,stem;k:keyword", "t:text,fold", "t:text,fold;k:keyword;n:number", "k:keyword;t:text,fold", "t:text,fold;k:number", "t:text,fold;l:keyword", "k:keyword"} {
		other := mustMake(t, mustParse(t, text), nil).part
		for _, parts := range [][]*segment.Part{{other}, {same, other}, {other, same}, {same, same, other, same}} {
			wantError(t, s, term(1, "a", 0), parts, api.ErrSchema)
		}
	}
	x, err := expand.Expand(s, term(1, "a", 0), []*segment.Part{same, mustMake(t, mustParse(t, "t:text,fold;k:keyword"), nil).part})
	if err != nil || !alike(x, term(1, "a", score.Idf(1, 1))) {
		t.Errorf("parts over the same schema: %s, %v", brief(x), err)
	}
}

// P17.3: queries that aren't good over the schema's fields, alone and within others.
func TestExpandBadQueries(t *testing.T) {
	s, cuts := exampleParts(t)
	over := append(badOnes(), has(1), has(15), term(1, "ab", 0), phrase(1, 0, 0, "ab"), prefix(1, "ab"), wild(1, "a*"), fuzzy(1, 1, "ab"), everything(1))
	for _, bad := range over {
		for _, parts := range [][]*segment.Part{nil, partsOf(cuts[1]...)} {
			for _, wrap := range append(wraps, func(q api.Query) api.Query { return q }) {
				wantError(t, s, wrap(bad), parts, api.ErrNode)
			}
		}
	}
	two := mustParse(t, "t:text;k:keyword")
	for _, q := range []api.Query{has(1), term(1, "ab", 0), prefix(1, "ab")} {
		if _, err := expand.Expand(two, q, nil); err != nil {
			t.Errorf("%s over two fields: %v", brief(q), err)
		}
	}
}

// P17.3: counts of MaxTerms are taken, and of one more refused, however they come about.
func TestExpandMaxTerms(t *testing.T) {
	s := mustParse(t, "t:text;k:keyword")
	docs := manyWords("w", api.MaxTerms)
	docs = append(docs, api.Doc{Id: 99, Values: []api.Value{{Name: "t", Text: "odd"}, {Name: "k", Text: "odd"}}})
	parts := []made{mustMake(t, s, docs[:1]), mustMake(t, s, docs[1:])}
	terms := func(n int) []api.Query {
		kids := make([]api.Query, n)
		for i := range kids {
			kids[i] = term(0, fmt.Sprintf("w%d", i), 0)
		}
		return kids
	}
	w, odd := prefix(0, "w"), term(0, "odd", 0)
	for _, q := range []api.Query{
		w, wild(0, "w*"), span(0, within("w"), within("x")), list(0, " ", w), not(w), fixed(0, w), most(terms(api.MaxTerms)...), phrase(0, 0, 0, strings.Repeat("w1 ", api.MaxTerms)), phrase(0, 0, 0, strings.Repeat("q ", api.MaxTerms)),
		list(0, "- ", w, all), most(w, prefix(0, "q"), none, has(0)),
	} {
		x := mustExpand(t, s, q, parts)
		if n := corpusOf(parts).count(q); n != api.MaxTerms {
			t.Fatalf("the count of %s is %d", brief(q), n)
		}
		if q.Kind == api.QPrefix && len(x.Kids) != api.MaxTerms {
			t.Errorf("%d kids", len(x.Kids))
		}
		// One term more, somewhere; whether a document has it or not.
		for _, more := range []api.Query{odd, term(0, "q", 0), phrase(0, 0, 0, "odd"), prefix(0, "o"), fuzzy(0, 1, "add"), everything(1)} {
			for _, above := range []api.Query{list(0, " -", q, more), list(0, "++", more, q), most(q, not(more)), boost(0, most(fixed(0, more), q))} {
				wantError(t, s, above, partsOf(parts...), api.ErrTerms)
			}
		}
	}
	for _, q := range []api.Query{everything(0), wild(0, "*"), most(terms(api.MaxTerms + 1)...), phrase(0, 0, 0, strings.Repeat("q ", api.MaxTerms+1)), not(everything(0)), most(w, w)} {
		wantError(t, s, q, partsOf(parts...), api.ErrTerms)
	}
	// A part that stands in the list twice doesn't have more terms by that; a dead document doesn't have any.
	mustExpand(t, s, w, append(parts, parts...))
	mustExpand(t, s, everything(0), []made{parts[0], mustKill(t, parts[1], len(docs)-2)})
}

// P17.3: many queries over many parts, against the model.
func TestExpandMadeQueries(t *testing.T) {
	m := newMaker(174)
	expanded := 0
	for range 400 {
		s := m.schema()
		parts := m.parts(t, s, m.Intn(5))
		for range 20 {
			q := m.within(20).query(s, m.weight)
			if corpusOf(parts).count(q) > api.MaxTerms {
				wantError(t, s, q, partsOf(parts...), api.ErrTerms)
				continue
			}
			x := mustExpand(t, s, q, parts)
			if bind.Size(x) > bind.Size(q) {
				expanded++
			}
		}
	}
	if expanded < 1000 {
		t.Errorf("only %d queries grew", expanded)
	}
}
