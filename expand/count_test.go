package expand_test

import (
	"strings"
	"testing"

	"concord/api"
	"concord/bind"
	"concord/expand"
	"concord/segment"
)

// wantCount says what Count answers.
func wantCount(t testing.TB, q api.Query, parts []*segment.Part, want int) {
	t.Helper()
	if n, err := expand.Count(q, parts); n != want || err != nil {
		t.Fatalf("Count(%s) is %d, %v, want %d", brief(q), n, err, want)
	}
}

// P17.2: the chapter's examples, and every kind of query.
func TestCountRows(t *testing.T) {
	_, cuts := exampleParts(t)
	ab := prefix(0, "ab")
	for _, row := range []struct {
		q    api.Query
		want int
	}{
		{ab, 2}, {prefix(0, "q"), 0}, {term(0, "q", 0), 1}, {not(ab), 2},
		{none, 0}, {all, 0}, {has(0), 0}, {has(15), 0},
		{term(0, "ab", 0), 1}, {term(0, "abd", 7), 1}, {term(15, "ab", 0), 1}, {term(0, "", 0), 1},
		{phrase(0, 0, 0, "ab"), 1}, {phrase(0, 3, 9, "ab q abd"), 3}, {phrase(15, 0, 0, "ab ab"), 2},
		{prefix(0, ""), 4}, {prefix(0, "abd"), 0}, {prefix(1, ""), 0}, {prefix(15, "ab"), 0},
		{wild(0, "?"), 2}, {wild(0, "*b*"), 3}, {wild(0, "q*"), 0}, {wild(15, "*"), 0},
		{fuzzy(0, 0, "ab"), 1}, {fuzzy(0, 1, "ab"), 3}, {fuzzy(0, 2, "ab"), 4}, {fuzzy(0, 0, "q"), 0}, {fuzzy(3, 2, "ab"), 0},
		{everything(0), 4}, {span(0, within("abc"), within("b")), 2}, {span(0, within("b"), without("abc")), 0}, {everything(15), 0},
		{list(0, " ", ab), 2}, {list(0, " +-", ab, ab, ab), 6}, {list(9, "--", ab, term(0, "q", 0)), 3}, {list(0, "+", all), 0},
		{most(ab, ab, phrase(0, 0, 0, "x y z")), 7}, {most(none), 0}, {not(not(ab)), 2}, {boost(0, ab), 2}, {boost(1<<63, ab), 2}, {fixed(0, ab), 2}, {fixed(3, most(ab, everything(0))), 6},
	} {
		for _, parts := range cuts {
			wantCount(t, row.q, partsOf(parts...), row.want)
			for _, wrap := range wraps {
				wantCount(t, wrap(row.q), partsOf(parts...), corpusOf(parts).count(wrap(row.q)))
			}
		}
	}
	// Without a part the leaves of many terms have none, and the others what they bear.
	wantCount(t, list(0, " +-", ab, term(0, "ab", 0), phrase(0, 0, 0, "ab x")), nil, 3)
	wantCount(t, everything(0), []*segment.Part{}, 0)
}

// P17.2: a part that stands in the list twice has its terms once; parts of unlike schemas have theirs.
func TestCountOfOtherParts(t *testing.T) {
	_, cuts := exampleParts(t)
	for _, parts := range cuts {
		wantCount(t, everything(0), append(partsOf(parts...), partsOf(parts...)...), 4)
	}
	parts := unlikeParts(t)
	for field, want := range []int{3, 3, 2, 0, 0} {
		wantCount(t, everything(field), partsOf(parts...), want)
		wantCount(t, most(everything(field), not(everything(field))), partsOf(parts...), 2*want)
	}
}

// P17.2: queries that aren't good over MaxFields fields, alone and within others.
func TestCountOfBadQueries(t *testing.T) {
	_, cuts := exampleParts(t)
	for _, bad := range badOnes() {
		for _, parts := range [][]*segment.Part{nil, partsOf(cuts[1]...)} {
			for _, wrap := range append(wraps, func(q api.Query) api.Query { return q }) {
				if n, err := expand.Count(wrap(bad), parts); n != 0 || err != api.ErrNode {
					t.Errorf("Count(%s) is %d, %v", brief(wrap(bad)), n, err)
				}
			}
		}
	}
}

// P17.2: counts around MaxTerms and far above it are no error.
func TestCountAboveMaxTerms(t *testing.T) {
	s := mustParse(t, "t:text")
	for _, n := range []int{api.MaxTerms - 1, api.MaxTerms, api.MaxTerms + 1, 5000} {
		docs := manyWords("w", n)
		whole, halves := mustMake(t, s, docs), []made{mustMake(t, s, docs[:1]), mustMake(t, s, docs[1:])}
		for _, parts := range [][]*segment.Part{partsOf(whole), partsOf(halves...)} {
			wantCount(t, prefix(0, "w"), parts, n)
			wantCount(t, list(0, "-+ ", not(wild(0, "w*")), boost(0, everything(0)), term(0, "q", 0)), parts, 2*n+1)
		}
		wantCount(t, phrase(0, 0, 0, strings.Repeat("q ", n)), nil, n)
		kids := make([]api.Query, n)
		for i := range kids {
			kids[i] = phrase(0, 0, 0, "a b")
		}
		wantCount(t, most(kids...), nil, 2*n)
	}
}

// P17.2: many queries over many parts; and what they are expanded to has no greater count.
func TestCountOfMadeQueries(t *testing.T) {
	m := newMaker(173)
	less := 0
	for range 300 {
		s := m.schema()
		parts := m.parts(t, s, m.Intn(5))
		c := corpusOf(parts)
		for range 20 {
			q := m.within(20).query(s, m.weight)
			n := c.count(q)
			wantCount(t, q, partsOf(parts...), n)
			x, err := expand.Expand(s, q, partsOf(parts...))
			if n > api.MaxTerms {
				continue
			}
			after, countErr := expand.Count(x, partsOf(parts...))
			if err != nil || countErr != nil || after > n || after != c.count(x) {
				t.Fatalf("the count of %s is %d, and of what it is expanded to %d: %v, %v", brief(q), n, after, err, countErr)
			}
			if after < n {
				less++
			}
			bad := q
			bad.Weight, bad.N, bad.Text = 1, 1, "x"
			if _, err := expand.Count(bad, partsOf(parts...)); err != bind.Check(bad, api.MaxFields, false) {
				t.Fatalf("Count(%s): %v", brief(bad), err)
			}
		}
	}
	if less < 100 {
		t.Errorf("only %d queries lose terms by being expanded", less)
	}
}
