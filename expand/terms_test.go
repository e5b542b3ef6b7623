package expand_test

import (
	"iter"
	"math"
	"slices"
	"strings"
	"testing"

	"concord/api"
	"concord/auto"
	"concord/expand"
	"concord/schema"
	"concord/segment"
)

// upTo goes over at most so many terms; over all, if most is below 1.
func upTo(seq iter.Seq2[string, int], most int) []found {
	var out []found
	for text, df := range seq {
		out = append(out, found{text, df})
		if len(out) == most {
			break
		}
	}
	return out
}

// holdTerms holds the terms of a leaf over parts against the model, gone over twice.
func holdTerms(t testing.TB, parts []made, leaf api.Query) int {
	t.Helper()
	want := corpusOf(parts).terms(leaf.Field, accepter(leaf))
	seq := expand.Terms(partsOf(parts...), leaf.Field, automatonOf(leaf))
	for range 2 {
		if got := upTo(seq, 0); !slices.Equal(got, want) {
			t.Fatalf("Terms of %s over %d parts: %v, want %v", brief(leaf), len(parts), got, want)
		}
	}
	return len(want)
}

// everything is a leaf that means all terms of a field.
func everything(field int) api.Query {
	return span(field, open(), open())
}

// P17.1: the chapter's examples, in several cuts.
func TestTermsExamples(t *testing.T) {
	_, cuts := exampleParts(t)
	for _, parts := range cuts {
		for _, row := range []struct {
			leaf api.Query
			want []found
		}{
			{prefix(0, "ab"), []found{{"ab", 2}, {"abc", 1}}},
			{prefix(0, "abd"), nil},
			{everything(0), []found{{"ab", 2}, {"abc", 1}, {"b", 1}, {"x", 1}}},
			{prefix(0, ""), []found{{"ab", 2}, {"abc", 1}, {"b", 1}, {"x", 1}}},
			{prefix(0, "abcd"), nil},
			{term(0, "ab", 0), []found{{"ab", 2}}},
			{term(0, "abd", 0), nil},
			{term(0, "", 0), nil},
			{wild(0, "?b*"), []found{{"ab", 2}, {"abc", 1}}},
			{wild(0, "?"), []found{{"b", 1}, {"x", 1}}},
			{wild(0, ""), nil},
			{wild(0, `\x`), []found{{"x", 1}}},
			{fuzzy(0, 0, "ab"), []found{{"ab", 2}}},
			{fuzzy(0, 1, "ab"), []found{{"ab", 2}, {"abc", 1}, {"b", 1}}},
			{fuzzy(0, 2, "ab"), []found{{"ab", 2}, {"abc", 1}, {"b", 1}, {"x", 1}}},
			{fuzzy(0, 1, "abd"), []found{{"ab", 2}, {"abc", 1}}},
			{span(0, within("ab"), without("b")), []found{{"ab", 2}, {"abc", 1}}},
			{span(0, without("ab"), within("b")), []found{{"abc", 1}, {"b", 1}}},
			{span(0, within("b"), without("b")), nil},
			{span(0, without("b"), open()), []found{{"x", 1}}},
		} {
			if got := upTo(expand.Terms(partsOf(parts...), 0, automatonOf(row.leaf)), 0); !slices.Equal(got, row.want) {
				t.Errorf("Terms of %s in %d parts: %v, want %v", brief(row.leaf), len(parts), got, row.want)
			}
			holdTerms(t, parts, row.leaf)
		}
	}
}

// P17.1: over no part, and over parts that have nothing to tell.
func TestTermsOfNothing(t *testing.T) {
	s := mustParse(t, "t:text;k:keyword")
	void, bare := mustMake(t, s, nil), mustMake(t, s, []api.Doc{{Id: 3}, {Id: 4}})
	gone := mustMake(t, s, inField("t", "ab", "abc"), 0, 1)
	for _, list := range [][]made{nil, {}, {void}, {bare}, {gone}, {void, bare, gone, void}} {
		for _, leaf := range []api.Query{everything(0), everything(1), prefix(0, "a"), wild(0, "*"), fuzzy(0, 2, "ab"), term(0, "ab", 0), prefix(7, "")} {
			if got := upTo(expand.Terms(partsOf(list...), leaf.Field, automatonOf(leaf)), 0); len(got) != 0 {
				t.Errorf("Terms of %s over %d parts: %v", brief(leaf), len(list), got)
			}
		}
	}
	if got := upTo(expand.Terms([]*segment.Part{}, 0, auto.Prefix("")), 0); len(got) != 0 {
		t.Errorf("Terms over an empty list: %v", got)
	}
}

// P17.1: fields that are there, and numbers whose lowest byte alone is that of one.
func TestTermsOfFields(t *testing.T) {
	s := mustParse(t, "t:text;k:keyword;n:number")
	doc := api.Doc{Values: []api.Value{{Name: "t", Text: "in the text"}, {Name: "k", Text: "in the"}, {Name: "k", Text: "\x00"}, {Name: "n", Text: "-7"}, {Name: "n", Text: "7"}}}
	parts := []made{mustMake(t, s, []api.Doc{doc})}
	for field, want := range [][]found{
		{{"in", 1}, {"text", 1}, {"the", 1}},
		{{"\x00", 1}, {"in the", 1}},
		{{schema.NumberTerm(-7), 1}, {schema.NumberTerm(7), 1}},
	} {
		if got := upTo(expand.Terms(partsOf(parts...), field, auto.Prefix("")), 0); !slices.Equal(got, want) {
			t.Errorf("the terms of the field %d: %v, want %v", field, got, want)
		}
	}
	for _, field := range []int{-1, -2, -253, -254, -255, -256, -257, 3, 4, 15, 16, 17, 255, 256, 257, 258, 512, 1 << 32, 1<<32 + 1, math.MinInt, math.MinInt + 1, math.MaxInt, math.MaxInt - 255} {
		for _, a := range []*auto.Auto{auto.Prefix(""), auto.Exact("in"), auto.Span(open(), open())} {
			if got := upTo(expand.Terms(partsOf(parts...), field, a), 0); len(got) != 0 {
				t.Errorf("the terms of the field %d: %v", field, got)
			}
		}
	}
}

// unlikeParts are parts over schemas of unlike numbers, names and kinds of fields.
func unlikeParts(t testing.TB) []made {
	one, two, three := mustParse(t, "t:text"), mustParse(t, "k:keyword;t:text,fold"), mustParse(t, "n:number;t:text;k:keyword")
	return []made{
		mustMake(t, one, inField("t", "Ab b", "b", "dead"), 2),
		mustMake(t, two, []api.Doc{{Id: 1, Values: []api.Value{{Name: "t", Text: "Ab x"}, {Name: "k", Text: "b"}}}, {Id: 9, Values: []api.Value{{Name: "k", Text: "Ab"}}}}),
		mustMake(t, three, []api.Doc{{Id: 1, Values: []api.Value{{Name: "t", Text: "Ab x x"}, {Name: "k", Text: "ab"}, {Name: "n", Text: "5"}}}}),
		mustMake(t, three, inField("k", "x", "ab", "ab")),
	}
}

// P17.1: parts of unlike schemas, and a field that one part has and another doesn't.
func TestTermsOfUnlikeSchemas(t *testing.T) {
	parts := unlikeParts(t)
	for field, want := range map[int][]found{
		0:  {{"Ab", 2}, {"b", 3}, {schema.NumberTerm(5), 1}},
		1:  {{"Ab", 1}, {"ab", 1}, {"x", 2}},
		2:  {{"ab", 3}, {"x", 1}},
		3:  nil,
		-1: nil,
	} {
		for _, list := range [][]made{parts, {parts[3], parts[2], parts[1], parts[0]}, {parts[2], parts[0], parts[3], parts[1]}} {
			if got := upTo(expand.Terms(partsOf(list...), field, auto.Prefix("")), 0); !slices.Equal(got, want) {
				t.Errorf("the terms of the field %d: %v, want %v", field, got, want)
			}
		}
	}
	for _, some := range [][]made{{parts[0]}, {parts[1], parts[0]}, {parts[0], parts[2]}, {parts[3], parts[3]}} {
		for field := -1; field < 5; field++ {
			holdTerms(t, some, everything(field))
			holdTerms(t, some, fuzzy(field, 1, "ab"))
		}
	}
}

// P17.1: a part that stands in the list more than once counts as often.
func TestTermsOfPartsTwice(t *testing.T) {
	s, cuts := exampleParts(t)
	whole := cuts[0][0]
	other := mustMake(t, s, inField("t", "x y"))
	for n := range 9 {
		list := slices.Repeat([]made{whole}, n)
		holdTerms(t, list, everything(0))
		holdTerms(t, append(list, other), everything(0))
		holdTerms(t, slices.Concat([]made{other}, list, []made{other}), everything(0))
		if got := upTo(expand.Terms(partsOf(list...), 0, auto.Exact("ab")), 0); n > 0 && !slices.Equal(got, []found{{"ab", 2 * n}}) {
			t.Errorf("a part that stands %d times in the list: %v", n, got)
		}
	}
	// Two parts of one segment, of unlike dead.
	holdTerms(t, []made{whole, mustKill(t, whole, 0, 1), mustKill(t, whole)}, everything(0))
}

// P17.1: every set of dead in two parts: terms of the dead alone, of the dead here and of the live there.
func TestTermsOfTheDead(t *testing.T) {
	s := mustParse(t, "t:text")
	one := mustMake(t, s, inField("t", "here both", "both again", "again again here"))
	two := mustMake(t, s, inField("t", "there both", "there", "again"))
	deadOf := func(set int) []int {
		return slices.DeleteFunc(run(0, 3), func(i int) bool { return set>>i&1 == 0 })
	}
	for a := range 8 {
		for b := range 8 {
			list := []made{mustKill(t, one, deadOf(a)...), mustKill(t, two, deadOf(b)...)}
			holdTerms(t, list, everything(0))
			holdTerms(t, list, prefix(0, "b"))
			holdTerms(t, list, fuzzy(0, 1, "here"))
		}
	}
	for _, row := range []struct {
		list []made
		want []found
	}{
		{[]made{mustKill(t, one, 0, 1), mustKill(t, two, 1, 2)}, []found{{"again", 1}, {"both", 1}, {"here", 1}, {"there", 1}}},
		{[]made{mustKill(t, one, 0, 1, 2), mustKill(t, two, 0)}, []found{{"again", 1}, {"there", 1}}},
		{[]made{mustKill(t, one, 0, 1, 2), mustKill(t, two, 0, 1, 2)}, nil},
	} {
		if got := upTo(expand.Terms(partsOf(row.list...), 0, auto.Prefix("")), 0); !slices.Equal(got, row.want) {
			t.Errorf("Terms: %v, want %v", got, row.want)
		}
	}
}

// P17.1: every kind of automaton over made parts, of one schema and of unlike ones.
func TestTermsOfMadeParts(t *testing.T) {
	m := newMaker(171)
	kinds := map[int]int{}
	for range 1000 {
		s := m.schema()
		parts := m.parts(t, s, m.Intn(6))
		if m.Intn(3) == 0 {
			parts = append(parts, m.parts(t, m.schema(), 1)...)
		}
		for range 30 {
			leaf := m.leaf(s, m.weight)
			if leaf.Kind == api.QTerm || isMany(leaf.Kind) {
				kinds[leaf.Kind] += holdTerms(t, parts, leaf)
			}
		}
	}
	for _, kind := range []int{api.QTerm, api.QPrefix, api.QWild, api.QFuzzy, api.QSpan} {
		if kinds[kind] < 300 {
			t.Errorf("only %d terms of the kind %d", kinds[kind], kind)
		}
	}
}

// P17.1: stopped behind each term, gone over again, and gone over within itself.
func TestTermsStopped(t *testing.T) {
	m := newMaker(172)
	for range 40 {
		s := m.schema()
		parts := m.parts(t, s, 1+m.Intn(4))
		seq := expand.Terms(partsOf(parts...), 0, auto.Prefix(""))
		want := corpusOf(parts).terms(0, accepter(everything(0)))
		for most := 1; most <= len(want)+1; most++ {
			if got := upTo(seq, most); !slices.Equal(got, want[:min(most, len(want))]) {
				t.Fatalf("stopped behind %d terms: %v, want %v", most, got, want)
			}
		}
		i := 0
		for text, df := range seq {
			if (found{text, df}) != want[i] || !slices.Equal(upTo(seq, 3), want[:min(3, len(want))]) {
				t.Fatalf("the term number %d is %q (%d), want %v", i, text, df, want[i])
			}
			i++
		}
		next, stop := iter.Pull2(seq)
		for _, x := range want[:len(want)/2] {
			if text, df, ok := next(); !ok || (found{text, df}) != x {
				t.Fatalf("pulled: %q (%d), want %v", text, df, x)
			}
		}
		stop()
		if got := upTo(seq, 0); !slices.Equal(got, want) {
			t.Fatalf("gone over again: %v, want %v", got, want)
		}
	}
}

// P17.1: thousands of parts, of a few words each.
func TestTermsOfManyParts(t *testing.T) {
	s := mustParse(t, "t:text")
	var parts []made
	for i := range 3000 {
		parts = append(parts, mustMake(t, s, inField("t", "all w"+strings.Repeat("x", i%50), "dead"), 1))
	}
	got := upTo(expand.Terms(partsOf(parts...), 0, auto.Prefix("")), 0)
	if len(got) != 51 || got[0] != (found{"all", 3000}) || got[1] != (found{"w", 60}) || got[50] != (found{"w" + strings.Repeat("x", 49), 60}) {
		t.Errorf("Terms over many parts: %v", got)
	}
	// Parts without any term in common, in falling order of their terms.
	words := strings.Fields(manyWords("u", 500)[0].Values[0].Text)
	slices.Sort(words)
	parts = nil
	for _, word := range words {
		parts = append([]made{mustMake(t, s, inField("t", word))}, parts...)
	}
	got = upTo(expand.Terms(slices.Repeat(partsOf(parts...), 40), 0, auto.Prefix("u")), 0)
	if len(got) != len(words) {
		t.Fatalf("%d terms, want %d", len(got), len(words))
	}
	for i, x := range got {
		if x != (found{words[i], 40}) {
			t.Fatalf("the term number %d: %v, want %s", i, x, words[i])
		}
	}
}

// FuzzTerms holds the terms of leaves of every kind over documents in two cuts, some of them dead, against the model.
func FuzzTerms(f *testing.F) {
	f.Add("ab abc|ab x|b|abd", "ab", "x", uint64(8), uint64(2))
	f.Add("", "", "", uint64(0), uint64(0))
	f.Add("one|two|one two|\xff|3.14 x", "o*", `\`, uint64(1), uint64(3))
	f.Add("a b c d|a b|a", "a?", "b", uint64(1), uint64(1))
	f.Fuzz(func(t *testing.T, text, word, other string, dead, cut uint64) {
		texts := strings.Split(text, "|")
		if len(text) > api.MaxText || len(texts) > 64 || len(word)+len(other) > 100 {
			t.Skip()
		}
		s := mustParse(t, "t:text,fold;raw:text")
		docs := inField("t", texts...)
		for i, text := range texts {
			docs[i].Values = append(docs[i].Values, api.Value{Name: "raw", Text: text})
		}
		gone := slices.DeleteFunc(run(0, len(docs)), func(i int) bool { return dead>>i&1 == 0 })
		whole := mustMake(t, s, docs, gone...)
		live := whole.live()
		at := int(cut % uint64(len(live)+1))
		pieces := []made{mustMake(t, s, live[:at]), mustMake(t, s, live[at:])}
		for field := -1; field < 3; field++ {
			leaves := []api.Query{term(field, word, 0), prefix(field, word), span(field, within(word), without(other)), span(field, without(other), within(word)), span(field, open(), within(word))}
			for edits := range 3 {
				leaves = append(leaves, fuzzy(field, edits, word))
			}
			if auto.Good(word) {
				leaves = append(leaves, wild(field, word))
			}
			for _, leaf := range leaves {
				if a, b := holdTerms(t, []made{whole}, leaf), holdTerms(t, pieces, leaf); a != b {
					t.Fatalf("%d terms in one cut, %d in another", a, b)
				}
			}
		}
	})
}
