package score_test

import (
	"math"
	"math/rand"
	"slices"
	"strings"
	"testing"

	"concord/api"
	"concord/merge"
	"concord/schema"
	"concord/score"
	"concord/segment"
	"concord/tokens"
)

// sameStats tells whether two statistics say one thing.
func sameStats(a, b api.Stats) bool {
	return a.Docs == b.Docs && slices.Equal(a.Sums, b.Sums)
}

// fields are the numbers of a schema's fields, and numbers that it doesn't have.
func fields(s api.Schema) []int {
	n := len(s.Fields)
	return append(run(0, n), -1, -256, -255, n, n+1, 127, 128, 255, 256, 257, 256+n-1, 65536, math.MinInt, math.MaxInt)
}

// terms are the terms of documents, and texts that are none.
func terms(s api.Schema, docs []api.Doc) []string {
	list := []string{"", "nowhere", "re", "redd", "Red", "\x00", "\x00red", "the", strings.Repeat("w", api.MaxTerm), strings.Repeat("w", api.MaxTerm+1), strings.Repeat("x", 5000)}
	for field := range s.Fields {
		for _, d := range docs {
			for _, token := range tokens.Field(s, field, d.Values) {
				list = append(list, token.Text)
			}
		}
	}
	slices.Sort(list)
	return slices.Compact(list)
}

// everyDoc are the documents of a list, the dead among them.
func everyDoc(list []made) []api.Doc {
	var docs []api.Doc
	for _, m := range list {
		docs = append(docs, m.docs...)
	}
	return docs
}

// holdStats holds Gather and Df of parts against the tokens of their live documents.
func holdStats(t *testing.T, s api.Schema, list []made) {
	t.Helper()
	parts, live := partsOf(list), docsOf(list)
	st, want := score.Gather(s, parts), modelGather(s, live)
	if !sameStats(st, want) {
		t.Fatalf("Gather of %d parts with the live documents %s is %v, not %v", len(list), brief(live), st, want)
	}
	for _, term := range terms(s, everyDoc(list)) {
		for _, field := range fields(s) {
			if n, want := score.Df(parts, field, term), modelDf(s, live, field, term); n != want {
				t.Fatalf("Df of the field %d and the term %.20q is %d in %s, not %d", field, term, n, brief(live), want)
			}
		}
	}
}

// exampleParts are two parts, of which the first has a dead document.
func exampleParts(t *testing.T) (api.Schema, []made) {
	s := mustParse(t, "t:text;k:keyword;n:number")
	a := mustMake(t, s, []api.Doc{doc(0, "t", "a b a gone", "k", "x", "k", "gone"), doc(1, "t", "b c d e f", "k", "x", "k", "y", "n", "7")}, 0)
	b := mustMake(t, s, []api.Doc{doc(5, "t", "a"), doc(6, "t", "", "k", "x", "n", "07", "n", "8"), doc(9, "t", "b b", "t", "b"), doc(12)})
	return s, []made{a, b}
}

// P12.1
func TestGatherExamples(t *testing.T) {
	s, list := exampleParts(t)
	a, b := list[0], list[1]
	for _, row := range []struct {
		list []made
		want api.Stats
	}{
		{nil, api.Stats{Sums: []int{0, 0, 0}}},
		{[]made{mustMake(t, s, nil)}, api.Stats{Sums: []int{0, 0, 0}}},
		{[]made{mustMake(t, s, []api.Doc{doc(3)})}, api.Stats{Docs: 1, Sums: []int{0, 0, 0}}},
		{[]made{a}, api.Stats{Docs: 1, Sums: []int{5, 2, 1}}},
		{[]made{b}, api.Stats{Docs: 4, Sums: []int{4, 1, 2}}},
		{[]made{a, b}, api.Stats{Docs: 5, Sums: []int{9, 3, 3}}},
		{[]made{b, a}, api.Stats{Docs: 5, Sums: []int{9, 3, 3}}},
		{[]made{mustKill(t, a), b}, api.Stats{Docs: 6, Sums: []int{13, 5, 3}}},
		{[]made{mustKill(t, a, 0, 1), b}, api.Stats{Docs: 4, Sums: []int{4, 1, 2}}},
		{[]made{mustKill(t, a, 0, 1), mustKill(t, b, 0, 1, 2, 3)}, api.Stats{Sums: []int{0, 0, 0}}},
		{[]made{mustKill(t, a, 1), mustKill(t, b, 1, 3)}, api.Stats{Docs: 3, Sums: []int{8, 2, 0}}},
		{[]made{a, a, b, a}, api.Stats{Docs: 7, Sums: []int{19, 7, 5}}},
	} {
		if st := score.Gather(s, partsOf(row.list)); !sameStats(st, row.want) {
			t.Errorf("Gather of %d parts is %v, not %v", len(row.list), st, row.want)
		}
		holdStats(t, s, row.list)
	}
}

// P12.1
func TestGatherWithoutParts(t *testing.T) {
	for n := range api.MaxFields + 1 {
		s := api.Schema{Fields: make([]api.Field, n)}
		for _, parts := range [][]*segment.Part{nil, {}} {
			if st := score.Gather(s, parts); st.Docs != 0 || !slices.Equal(st.Sums, make([]int, n)) {
				t.Errorf("Gather without parts over %d fields is %v", n, st)
			}
		}
	}
}

// P12.1
func TestAvg(t *testing.T) {
	st := api.Stats{Docs: 4, Sums: []int{0, 1, 3, 4, 7, 8, -1, -8, math.MaxInt, math.MinInt}}
	for field, want := range []int{0, 0, 0, 1, 1, 2, 0, 0, math.MaxInt / 4, 0} {
		if n := score.Avg(st, field); n != want {
			t.Errorf("Avg of the sum %d over 4 documents is %d, not %d", st.Sums[field], n, want)
		}
		for _, docs := range []int{0, -1, -4, math.MinInt} {
			if n := score.Avg(api.Stats{Docs: docs, Sums: st.Sums}, field); n != 0 {
				t.Errorf("Avg of the sum %d over %d documents is %d", st.Sums[field], docs, n)
			}
		}
	}
	for _, field := range []int{-1, -2, 10, 11, 256, 266, math.MinInt, math.MaxInt} {
		if n := score.Avg(st, field); n != 0 {
			t.Errorf("Avg of the field %d is %d", field, n)
		}
	}
	for _, row := range []struct{ docs, sum, want int }{
		{1, 1, 1}, {1, 0, 0}, {2, 1, 0}, {2, 2, 1}, {2, 3, 1}, {3, 8, 2}, {3, 9, 3}, {1, math.MaxInt, math.MaxInt}, {math.MaxInt, math.MaxInt, 1}, {math.MaxInt, math.MaxInt - 1, 0}, {7, -7, 0}, {1, math.MinInt, 0},
	} {
		if n := score.Avg(api.Stats{Docs: row.docs, Sums: []int{row.sum}}, 0); n != row.want {
			t.Errorf("Avg of the sum %d over %d documents is %d, not %d", row.sum, row.docs, n, row.want)
		}
	}
	for _, sums := range [][]int{nil, {}} {
		if score.Avg(api.Stats{Docs: 3, Sums: sums}, 0) != 0 {
			t.Error("Avg without sums")
		}
	}
}

// P12.1: the averages of the examples of the whole.
func TestAvgOfTheWhole(t *testing.T) {
	s := mustParse(t, "title:text,fold;tag:keyword")
	m := mustMake(t, s, []api.Doc{doc(0, "title", "Red fox", "tag", "a"), doc(1, "title", "The red red dog")})
	st := score.Gather(s, []*segment.Part{m.part})
	if !sameStats(st, api.Stats{Docs: 2, Sums: []int{6, 1}}) || score.Avg(st, 0) != 3 || score.Avg(st, 1) != 0 {
		t.Errorf("%v, and the averages %d and %d", st, score.Avg(st, 0), score.Avg(st, 1))
	}
	df := func(term string) int {
		return score.Df([]*segment.Part{m.part}, 0, term)
	}
	if df("red") != 2 || df("fox") != 1 || df("Red") != 0 || df("the") != 1 {
		t.Error("the numbers of documents of red, fox, Red and the are", df("red"), df("fox"), df("Red"), df("the"))
	}
	if score.Idf(st.Docs, df("fox"))*score.Sat(1, 2, score.Avg(st, 0)) != 137728 || score.Idf(st.Docs, df("red"))*score.Sat(2, 4, score.Avg(st, 0)) != 39195 {
		t.Error("the scores of fox and red")
	}
	st = score.Gather(s, []*segment.Part{mustKill(t, m, 1).part})
	if !sameStats(st, api.Stats{Docs: 1, Sums: []int{2, 1}}) || score.Avg(st, 0) != 2 || score.Avg(st, 1) != 1 {
		t.Errorf("with one dead %v", st)
	}
}

// P12.1
func TestDfExamples(t *testing.T) {
	_, list := exampleParts(t)
	parts := partsOf(list)
	for _, row := range []struct {
		field int
		term  string
		want  int
	}{
		{0, "a", 1}, {0, "b", 2}, {0, "c", 1}, {0, "f", 1}, {1, "x", 2}, {1, "y", 1}, {2, schema.NumberTerm(7), 2}, {2, schema.NumberTerm(8), 1},
		{0, "gone", 0}, {1, "gone", 0}, {2, "gone", 0}, {0, "x", 0}, {1, "a", 0}, {0, "", 0}, {1, "", 0}, {0, "A", 0}, {0, "ab", 0}, {2, "7", 0}, {2, schema.NumberTerm(9), 0},
		{-1, "a", 0}, {3, "a", 0}, {256, "a", 0}, {256, "b", 0}, {257, "x", 0}, {-256, "b", 0}, {-255, "x", 0}, {math.MinInt, "b", 0}, {math.MaxInt, "b", 0},
	} {
		if n := score.Df(parts, row.field, row.term); n != row.want {
			t.Errorf("Df of the field %d and %q is %d, not %d", row.field, row.term, n, row.want)
		}
		if score.Df(nil, row.field, row.term) != 0 || score.Df([]*segment.Part{}, row.field, row.term) != 0 {
			t.Errorf("Df of the field %d and %q isn't 0 without parts", row.field, row.term)
		}
	}
	if n := score.Df(slices.Concat(parts, parts, parts[:1]), 0, "b"); n != 5 {
		t.Errorf("Df of parts that stand in the list again is %d", n)
	}
}

// P12.1: every set of dead in a part counts just those that are left.
func TestStatsWithEveryDead(t *testing.T) {
	s := mustParse(t, "t:text;k:keyword")
	whole := mustMake(t, s, []api.Doc{doc(0, "t", "one all", "k", "k"), doc(1, "t", "two all all"), doc(2), doc(3, "t", "one two", "k", "k", "k", "l"), doc(4, "k", "l")})
	for set := range 32 {
		dead := slices.DeleteFunc(run(0, 5), func(i int) bool {
			return set>>i&1 == 0
		})
		m := mustKill(t, whole, dead...)
		holdStats(t, s, []made{m})
		holdStats(t, s, []made{m, whole, m})
	}
}

// P12.1: more documents than a block of postings or of a set has, and as many as a segment may have.
func TestStatsOfManyDocuments(t *testing.T) {
	s := mustParse(t, "t:text;k:keyword")
	var docs []api.Doc
	for i := range api.MaxDocs {
		d := doc(2*i, "t", "all all")
		if i%3 == 0 {
			d.Values = append(d.Values, api.Value{Name: "k", Text: "third"})
		}
		docs = append(docs, d)
	}
	whole := mustMake(t, s, docs)
	for _, row := range []struct {
		dead       []int
		all, third int
	}{
		{nil, 4096, 1366}, {run(0, 4096), 0, 0}, {run(0, 4095), 1, 1}, {run(1, 4096), 1, 1}, {run(0, 1000), 3096, 1032}, {run(3, 4000), 99, 33},
		{[]int{0, 63, 64, 65, 255, 256, 4095}, 4089, 1362},
	} {
		m := mustKill(t, whole, row.dead...)
		parts := []*segment.Part{m.part, m.part}
		st := score.Gather(s, parts)
		if !sameStats(st, api.Stats{Docs: 2 * row.all, Sums: []int{4 * row.all, 2 * row.third}}) {
			t.Errorf("Gather with %d dead is %v", len(row.dead), st)
		}
		if all, third := score.Df(parts, 0, "all"), score.Df(parts, 1, "third"); all != 2*row.all || third != 2*row.third {
			t.Errorf("Df with %d dead is %d and %d", len(row.dead), all, third)
		}
	}
}

// P12.1, P12.6: made parts against their tokens, and against the sums part by part.
func TestStatsOfMadeParts(t *testing.T) {
	dice := rand.New(rand.NewSource(137))
	for _, text := range []string{wholeSchema, "a:text", "k:keyword", "n:number;a:text,stem;m:number"} {
		s := mustParse(t, text)
		for n := range 9 {
			list := madeParts(t, dice, s, n)
			holdStats(t, s, list)
			holdPartByPart(t, s, list)
			slices.Reverse(list)
			holdStats(t, s, append(list, list...))
		}
	}
}

// holdPartByPart holds Gather and Df of parts against the sums over the parts, one by one.
func holdPartByPart(t *testing.T, s api.Schema, list []made) {
	t.Helper()
	parts := partsOf(list)
	sum := api.Stats{Sums: make([]int, len(s.Fields))}
	for _, p := range parts {
		one := score.Gather(s, []*segment.Part{p})
		sum.Docs += one.Docs
		for field := range sum.Sums {
			sum.Sums[field] += one.Sums[field]
		}
	}
	if st := score.Gather(s, parts); !sameStats(st, sum) {
		t.Errorf("Gather is %v; part by part it is %v", st, sum)
	}
	for _, term := range terms(s, everyDoc(list)) {
		for field := range s.Fields {
			n := 0
			for _, p := range parts {
				n += score.Df([]*segment.Part{p}, field, term)
			}
			if df := score.Df(parts, field, term); df != n {
				t.Errorf("Df of the field %d and %.20q is %d; part by part it is %d", field, term, df, n)
			}
		}
	}
}

// holdAlike holds that two lists of parts with the same live documents have the same statistics.
func holdAlike(t *testing.T, s api.Schema, one, two []*segment.Part, words []string) {
	t.Helper()
	if a, b := score.Gather(s, one), score.Gather(s, two); !sameStats(a, b) {
		t.Errorf("Gather of one cut is %v, of another %v", a, b)
	}
	for _, term := range words {
		for field := range s.Fields {
			if a, b := score.Df(one, field, term), score.Df(two, field, term); a != b {
				t.Errorf("Df of the field %d and %.20q is %d in one cut, %d in another", field, term, a, b)
			}
		}
	}
}

// P12.6: every way to cut seven documents into runs, with dead ones at the seams and without.
func TestStatsOfEveryCut(t *testing.T) {
	s := mustParse(t, wholeSchema)
	dice := rand.New(rand.NewSource(138))
	docs := madeDocs(dice, s, 7)
	words := terms(s, docs)
	whole := mustMake(t, s, docs)
	for cut := range 64 {
		var clean, dirty []made
		first := 0
		for i := range docs {
			if i == 6 || cut>>i&1 == 1 {
				clean = append(clean, mustMake(t, s, docs[first:i+1]))
				dirty = append(dirty, mustKill(t, whole, append(run(0, first), run(i+1, 7)...)...))
				first = i + 1
			}
		}
		holdAlike(t, s, partsOf([]made{whole}), partsOf(clean), words)
		holdAlike(t, s, partsOf([]made{whole}), partsOf(dirty), words)
		slices.Reverse(clean)
		holdAlike(t, s, partsOf([]made{whole}), partsOf(append(clean, mustMake(t, s, nil))), words)
	}
}

// P12.6: documents spread over parts by chance, others dead among them; and all of them merged.
func TestStatsOfSpreadDocuments(t *testing.T) {
	s := mustParse(t, wholeSchema)
	dice := rand.New(rand.NewSource(139))
	for range 60 {
		docs := madeDocs(dice, s, dice.Intn(50))
		dead := madeDead(dice, len(docs))
		whole := mustMake(t, s, docs, dead...)
		words := terms(s, docs)
		var list []made
		n := 1 + dice.Intn(6)
		places := make([]int, len(docs))
		for i := range places {
			places[i] = dice.Intn(n)
		}
		for k := range n {
			var some []api.Doc
			var gone []int
			for i, d := range docs {
				// A dead document may stand in any part, or in several.
				if places[i] == k || (slices.Contains(dead, i) && dice.Intn(2) == 0) {
					if slices.Contains(dead, i) {
						gone = append(gone, len(some))
					}
					some = append(some, d)
				}
			}
			list = append(list, mustMake(t, s, some, gone...))
		}
		holdStats(t, s, list)
		holdAlike(t, s, []*segment.Part{whole.part}, partsOf(list), words)
		holdAlike(t, s, []*segment.Part{whole.part}, []*segment.Part{merged(t, s, whole)}, words)
	}
}

// merged is a part of the live documents alone.
func merged(t *testing.T, s api.Schema, m made) *segment.Part {
	t.Helper()
	image, err := merge.Merge(s, []*segment.Part{m.part})
	if err != nil {
		t.Fatal(err)
	}
	g, err := segment.Open(s, image)
	if err != nil {
		t.Fatal(err)
	}
	return mustPart(t, g, nil)
}

// Rule 5: lists handed in stay, spare room included, and aren't kept; statistics are new memory.
func TestStatsShareNothing(t *testing.T) {
	s, list := exampleParts(t)
	s.Fields = append(s.Fields, api.Field{Name: "spare", Kind: 9})[:3]
	parts := append(partsOf(list), mustMake(t, mustParse(t, "t:text"), nil).part)[:2]
	fieldsGiven, partsGiven := slices.Clone(s.Fields[:4]), slices.Clone(parts[:3])
	first, second := score.Gather(s, parts), score.Gather(s, parts)
	score.Df(parts, 0, "b")
	if !slices.Equal(s.Fields[:4], fieldsGiven) || !slices.Equal(parts[:3], partsGiven) {
		t.Error("Gather or Df changed what was handed in")
	}
	want := api.Stats{Docs: 5, Sums: []int{9, 3, 3}}
	wipe(second.Sums)
	clear(s.Fields[:4])
	clear(parts[:3])
	if !sameStats(first, want) {
		t.Errorf("statistics become %v, with others wiped and the lists handed in cleared", first)
	}
	wipe(first.Sums)
	s, parts = mustParse(t, "t:text;k:keyword;n:number"), partsGiven[:2]
	if third := score.Gather(s, parts); !sameStats(third, want) || score.Df(parts, 0, "b") != 2 {
		t.Errorf("asked again: %v", third)
	}
	holdStats(t, s, list)
}

// wipe writes over numbers, spare room included.
func wipe(list []int) {
	list = list[:cap(list)]
	for i := range list {
		list[i] = -77
	}
}

// Rule 5: Avg leaves the statistics, spare room included, and a sum in the spare room is no field's.
func TestAvgLeavesTheStatistics(t *testing.T) {
	sums := []int{8, -3, 40, 50}
	st := api.Stats{Docs: 4, Sums: sums[:2]}
	for field := -1; field < 5; field++ {
		if n := score.Avg(st, field); (field == 0) != (n == 2) || (field != 0 && n != 0) {
			t.Errorf("Avg of the field %d is %d", field, n)
		}
	}
	if st.Docs != 4 || len(st.Sums) != 2 || !slices.Equal(sums, []int{8, -3, 40, 50}) {
		t.Errorf("Avg changed the statistics: %v", sums)
	}
}

// Rule 7: asked again, parts being asked for other things in between, alike.
func TestStatsAskedAgain(t *testing.T) {
	s := mustParse(t, wholeSchema)
	dice := rand.New(rand.NewSource(140))
	list := madeParts(t, dice, s, 6)
	parts := partsOf(list)
	st, df := score.Gather(s, parts), score.Df(parts, 0, "red")
	for range 50 {
		p := parts[dice.Intn(len(parts))]
		p.Rows()
		p.Cursor(0, "red").Next()
		score.Df([]*segment.Part{p}, dice.Intn(5), "b")
		if !sameStats(score.Gather(s, parts), st) || score.Df(parts, 0, "red") != df {
			t.Fatal("Gather or Df asked again answers otherwise")
		}
	}
}

// FuzzStats holds Gather and Df of documents in two cuts, some dead, against their tokens.
func FuzzStats(f *testing.F) {
	f.Add("a b a|b|the red foxes||a", uint64(2), uint64(4))
	f.Add("", uint64(0), uint64(0))
	f.Add("one|two|one two|\xff|3.14 x", uint64(1), uint64(3))
	f.Fuzz(func(t *testing.T, text string, dead, cut uint64) {
		s := mustParse(t, "raw:text;t:text,fold,stop,stem")
		texts := strings.Split(text, "|")
		if len(text) > api.MaxText || len(texts) > 64 {
			t.Skip()
		}
		var docs, live []api.Doc
		var gone []int
		for i, text := range texts {
			docs = append(docs, doc(i, "raw", text, "t", text))
			if dead>>i&1 == 1 {
				gone = append(gone, i)
			} else {
				live = append(live, docs[i])
			}
		}
		at := int(cut % uint64(len(live)+1))
		whole := mustMake(t, s, docs, gone...)
		list := []made{mustMake(t, s, live[:at]), mustMake(t, s, live[at:])}
		holdStats(t, s, []made{whole})
		holdStats(t, s, list)
		holdAlike(t, s, []*segment.Part{whole.part}, partsOf(list), terms(s, docs))
	})
}
