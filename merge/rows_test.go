package merge_test

import (
	"math/rand"
	"slices"
	"testing"

	"concord/api"
	"concord/merge"
	"concord/segment"
)

// holdRows holds Rows of parts against the tokens of their live documents.
func holdRows(t *testing.T, list []made) {
	t.Helper()
	rows, want := merge.Rows(partsOf(list)), modelRows(list)
	if !sameRows(rows, want) {
		t.Fatalf("Rows of %d parts with the documents %s are %s, not %s", len(list), brief(docsOf(list)), brief(rows), brief(want))
	}
}

// post is a posting.
func post(number int, pos ...int) api.Posting {
	return api.Posting{Doc: number, Pos: pos}
}

// P11.2: the chapter's example, and others written out.
func TestRowsExamples(t *testing.T) {
	s, z := mustParse(t, "t:text;k:keyword"), mustParse(t, "k:text,fold;n:number")
	a := mustMake(t, s, []api.Doc{doc(0, "t", "a b"), doc(1, "t", "b")}, 0)
	b := mustMake(t, s, []api.Doc{doc(2, "t", "b c")})
	c := mustMake(t, s, []api.Doc{doc(3, "t", "b b", "k", "B"), doc(4), doc(5, "t", "a", "t", "b")})
	d := mustMake(t, z, []api.Doc{doc(0, "k", "B A", "n", "0"), doc(1, "n", "-1")})
	for _, row := range []struct {
		list []made
		want []api.Row
	}{
		{nil, nil},
		{[]made{mustMake(t, s, nil)}, nil},
		{[]made{a.with(t, 0, 1), a.with(t, 0, 1)}, nil},
		{[]made{mustMake(t, s, []api.Doc{doc(3)})}, nil},
		{[]made{a, b}, []api.Row{{Field: 0, Term: "b", Posts: []api.Posting{post(0, 0), post(1, 0)}}, {Field: 0, Term: "c", Posts: []api.Posting{post(1, 1)}}}},
		{[]made{b, a}, []api.Row{{Field: 0, Term: "b", Posts: []api.Posting{post(0, 0), post(1, 0)}}, {Field: 0, Term: "c", Posts: []api.Posting{post(0, 1)}}}},
		{[]made{a, a, a}, []api.Row{{Field: 0, Term: "b", Posts: []api.Posting{post(0, 0), post(1, 0), post(2, 0)}}}},
		{[]made{c.with(t, 1), b, c.with(t, 0)}, []api.Row{
			{Field: 0, Term: "a", Posts: []api.Posting{post(1, 0), post(4, 0)}},
			{Field: 0, Term: "b", Posts: []api.Posting{post(0, 0, 1), post(1, 17), post(2, 0), post(4, 17)}},
			{Field: 0, Term: "c", Posts: []api.Posting{post(2, 1)}},
			{Field: 1, Term: "B", Posts: []api.Posting{post(0, 0)}},
		}},
		{[]made{d, c, d.with(t, 0)}, []api.Row{
			{Field: 0, Term: "a", Posts: []api.Posting{post(0, 1), post(4, 0)}},
			{Field: 0, Term: "b", Posts: []api.Posting{post(0, 0), post(2, 0, 1), post(4, 17)}},
			{Field: 1, Term: "B", Posts: []api.Posting{post(2, 0)}},
			{Field: 1, Term: "\x7f\xff\xff\xff\xff\xff\xff\xff", Posts: []api.Posting{post(1, 0), post(5, 0)}},
			{Field: 1, Term: "\x80\x00\x00\x00\x00\x00\x00\x00", Posts: []api.Posting{post(0, 0)}},
		}},
	} {
		if rows := merge.Rows(partsOf(row.list)); !sameRows(rows, row.want) {
			t.Errorf("Rows of %d parts are %v, not %v", len(row.list), rows, row.want)
		}
		holdRows(t, row.list)
	}
}

// P11.2
func TestRowsOfNamedLists(t *testing.T) {
	for name, list := range namedLists(t) {
		t.Run(name, func(t *testing.T) {
			holdRows(t, list)
			holdRows(t, slices.Concat(list, list))
			slices.Reverse(list)
			holdRows(t, list)
		})
	}
}

// P11.2: parts in any order, some twice and some not at all, over one schema and over two.
func TestRowsInAnyOrder(t *testing.T) {
	dice := rand.New(rand.NewSource(121))
	s, z := mustParse(t, wholeSchema), mustParse(t, otherSchema)
	for range 40 {
		one, two := madeParts(t, dice, s, 4), madeParts(t, dice, z, 3)
		for _, all := range [][]made{one, two, slices.Concat(one, two)} {
			var list []made
			for range dice.Intn(9) {
				m := all[dice.Intn(len(all))]
				list = append(list, m, m.with(t, madeDead(dice, len(m.docs))...))
			}
			holdRows(t, list)
		}
	}
}

// P11.2: in every order of four parts, by one schema or two.
func TestRowsInEveryOrder(t *testing.T) {
	s, z := mustParse(t, wholeSchema), mustParse(t, otherSchema)
	list := []made{
		mustMake(t, s, []api.Doc{doc(9, "raw", "a b"), doc(12, "raw", "b", "title", "b")}, 0),
		mustMake(t, s, []api.Doc{doc(9, "raw", "c a"), doc(11, "tag", "b")}),
		mustMake(t, z, []api.Doc{doc(3, "m", "a", "raw", "B"), doc(9, "tag", "b a b")}, 1),
		mustMake(t, z, []api.Doc{doc(1, "last", "b"), doc(2, "tag", "b a b")}),
	}
	for i := range 256 {
		holdRows(t, []made{list[i%4], list[i/4%4], list[i/16%4], list[i/64%4]})
	}
}

// P11.2: the rows of Merge's image.
func TestRowsAreThoseOfTheMerged(t *testing.T) {
	hold := func(s api.Schema, list []made) {
		t.Helper()
		merged := joinNeighbours(t, s, partsOf(list)).Rows()
		if !sameRows(merged, merge.Rows(partsOf(list))) || !sameRows(merged, modelRows(list)) {
			t.Fatalf("the rows of the merged image of %s are %s", brief(docsOf(list)), brief(merged))
		}
	}
	for _, list := range namedLists(t) {
		hold(mustParse(t, wholeSchema), list)
	}
	dice := rand.New(rand.NewSource(122))
	for _, text := range []string{wholeSchema, otherSchema, "a:text", "k:keyword"} {
		for n := range 6 {
			s := mustParse(t, text)
			hold(s, madeParts(t, dice, s, n))
		}
	}
}

// P11.2: terms of which only dead documents have a posting aren't there; the others are.
func TestRowsWithoutTermsOfTheDead(t *testing.T) {
	s := mustParse(t, "t:text;k:keyword")
	docs := []api.Doc{doc(0, "t", "one all", "k", "k"), doc(1, "t", "two all"), doc(2, "t", "three all", "k", "k")}
	words := []string{"one", "two", "three"}
	for bits := range 64 {
		var deads [2][]int
		want := map[string]int{}
		for i := range 6 {
			if bits>>i&1 == 1 {
				deads[i/3] = append(deads[i/3], i%3)
				continue
			}
			want["all"]++
			want[words[i%3]]++
			if i%3 != 1 {
				want["k"]++
			}
		}
		list := []made{mustMake(t, s, docs, deads[0]...), mustMake(t, s, docs, deads[1]...)}
		rows := merge.Rows(partsOf(list))
		if len(rows) != len(want) {
			t.Errorf("with the dead %v: %d rows, not %d", deads, len(rows), len(want))
		}
		for _, r := range rows {
			if len(r.Posts) != want[r.Term] {
				t.Errorf("with the dead %v: %q has %d postings, not %d", deads, r.Term, len(r.Posts), want[r.Term])
			}
		}
		holdRows(t, list)
	}
}

// P11.2: the numbers go through, beyond the documents of one segment; a part that stands in the list many times counts each time.
func TestRowsOfManyParts(t *testing.T) {
	s := mustParse(t, wholeSchema)
	few := mustMake(t, s, plain(0, 1, 2, 3, 4), 2)
	holdRows(t, slices.Repeat([]made{few, mustMake(t, s, nil), few.with(t, 0, 1)}, 700))
	most := mustMake(t, s, plain(run(0, api.MaxDocs)...))
	list := []made{most, most.with(t, 0, 4095), few, most}
	holdRows(t, list)
	for _, r := range merge.Rows(partsOf(list)) {
		if r.Term == "w0" && r.Posts[len(r.Posts)-1].Doc != 4096+4094+4+4095 {
			t.Errorf("the last document is %v", r.Posts[len(r.Posts)-1])
		}
	}
}

// holdApart holds that no two lists of answers share memory, spare room included.
func holdApart(t *testing.T, answers ...[]api.Row) {
	t.Helper()
	numbers, posts, rows := map[*int]bool{}, map[*api.Posting]bool{}, map[*api.Row]bool{}
	count := [3]int{}
	for _, answer := range answers {
		answer = answer[:cap(answer)]
		for i := range answer {
			rows[&answer[i]] = true
			list := answer[i].Posts[:cap(answer[i].Posts)]
			for k := range list {
				posts[&list[k]] = true
				pos := list[k].Pos[:cap(list[k].Pos)]
				for j := range pos {
					numbers[&pos[j]] = true
				}
				count[2] += len(pos)
			}
			count[1] += len(list)
		}
		count[0] += len(answer)
	}
	if count != [3]int{len(rows), len(posts), len(numbers)} {
		t.Errorf("%d rows, %d postings and %d positions share memory", count[0]-len(rows), count[1]-len(posts), count[2]-len(numbers))
	}
}

// holdRowsShareNothing holds that Rows leaves what is handed in, spare room included, and that the lists of an answer are new memory, each its own.
func holdRowsShareNothing(t *testing.T, list []made) {
	t.Helper()
	parts := append(partsOf(list), mustMake(t, mustParse(t, "raw:text"), plain(1)).part)
	given := slices.Clone(parts)
	first, second := merge.Rows(parts[:len(list)]), merge.Rows(parts[:len(list)])
	if !slices.Equal(parts, given) {
		t.Error("Rows changed the list of parts")
	}
	answers := [][]api.Row{first, second}
	for i, m := range list {
		if slices.Index(given, m.part) == i {
			answers = append(answers, m.part.Rows())
		}
	}
	holdApart(t, answers...)
	clear(parts)
	wipeRows(second)
	if !sameRows(first, modelRows(list)) {
		t.Error("an answer changes with another one, or with the list of parts")
	}
	wipeRows(first)
	holdRows(t, list)
	for _, m := range list {
		holdPart(t, m)
	}
}

// Rule 5
func TestRowsShareNothing(t *testing.T) {
	for _, list := range namedLists(t) {
		holdRowsShareNothing(t, list)
		holdRowsShareNothing(t, append(slices.Clone(list), list...))
	}
	dice := rand.New(rand.NewSource(123))
	for n := range 6 {
		list := madeParts(t, dice, mustParse(t, wholeSchema), n+1)
		holdRowsShareNothing(t, append(list, list[n], list[0].with(t)))
	}
}

// wipeRows writes over rows and their postings, spare room included.
func wipeRows(rows []api.Row) {
	rows = rows[:cap(rows)]
	for i, r := range rows {
		list := r.Posts[:cap(r.Posts)]
		for k, p := range list {
			pos := p.Pos[:cap(p.Pos)]
			for j := range pos {
				pos[j] = -1
			}
			list[k] = api.Posting{Doc: -1}
		}
		rows[i] = api.Row{Field: -1}
	}
}

// Rule 7: what is asked again, the parts being asked for other things in between, is answered alike.
func TestRowsAskedAgain(t *testing.T) {
	s := mustParse(t, wholeSchema)
	dice := rand.New(rand.NewSource(124))
	list := madeParts(t, dice, s, 8)
	parts := partsOf(list)
	want := merge.Rows(parts)
	for range 50 {
		p := parts[dice.Intn(len(parts))]
		p.Rows()
		merge.Merge(s, []*segment.Part{p, p})
		if !sameRows(merge.Rows(parts), want) {
			t.Fatal("Rows asked again answers otherwise")
		}
	}
}
