package bind_test

import (
	"math"
	"strings"
	"testing"

	"concord/api"
)

// wantGood says that a query is good over so many fields and more, and not over fewer, and holds the calls over it against the model.
func wantGood(t *testing.T, q api.Query, fields int) {
	t.Helper()
	for _, more := range []int{0, 1, 100, math.MaxInt - fields} {
		wantCheck(t, q, fields+more, false, true)
	}
	if fields > 0 {
		wantCheck(t, q, fields-1, false, false)
	}
	holdQuery(t, q)
}

// wraps are ways to put a query into a good one.
var wraps = []func(q api.Query) api.Query{
	func(q api.Query) api.Query { return not(q) },
	func(q api.Query) api.Query { return boost(3, q) },
	func(q api.Query) api.Query { return fixed(0, q) },
	func(q api.Query) api.Query { return most(q) },
	func(q api.Query) api.Query { return most(all, q, none) },
	func(q api.Query) api.Query { return list(0, " ", q) },
	func(q api.Query) api.Query { return list(2, "+-", all, q) },
	func(q api.Query) api.Query { return list(1, "- +", has(0), q, term(1, "a", 5)) },
}

// wantBad says that a query isn't good over any number of fields, alone and within others, and holds the calls over it against the model.
func wantBad(t *testing.T, q api.Query) {
	t.Helper()
	for _, fields := range []int{math.MinInt, -1, 0, 1, 2, api.MaxFields, 1 << 20, math.MaxInt} {
		for _, plain := range []bool{false, true} {
			wantCheck(t, q, fields, plain, false)
			for _, wrap := range wraps {
				wantCheck(t, wrap(q), fields, plain, false)
			}
		}
	}
	holdQuery(t, q)
}

// P16.1: a good query of every kind, and in every one each thing that its kind doesn't have, set by itself.
func TestFieldsOfKinds(t *testing.T) {
	for kind, q := range goodOnes() {
		if kind == 0 {
			wantBad(t, q)
			continue
		}
		fields := 0
		if strings.Contains(hasFields[kind], "F") {
			fields = q.Field + 1
		}
		if kind == api.QList {
			fields = 2 // its last kid
		}
		wantGood(t, q, fields)
		for _, change := range changes {
			changed := copied(q)
			change.set(&changed)
			if change.part != 'K' && !strings.ContainsRune(hasFields[kind], change.part) {
				wantBad(t, changed)
			} else {
				holdQuery(t, changed)
			}
		}
		// Empty lists are none.
		q.Terms, q.Offs = append(make([]string, 0, 3), q.Terms...), append(make([]int, 0, 3), q.Offs...)
		q.Occur, q.Kids = append(make([]int, 0, 3), q.Occur...), append(make([]api.Query, 0, 3), q.Kids...)
		wantGood(t, q, fields)
	}
}

// P16.1: kinds below QNone and above QConst.
func TestKinds(t *testing.T) {
	for _, kind := range []int{math.MinInt, -1, 0, api.QConst + 1, api.QConst + 2, 256 + api.QAll, 1<<32 + api.QAll, math.MaxInt} {
		wantBad(t, api.Query{Kind: kind})
		wantBad(t, api.Query{Kind: kind, Kids: []api.Query{all}})
	}
}

// P16.1: Field at -1, 0, the last and one above.
func TestFields(t *testing.T) {
	for _, q := range goodOnes() {
		if !strings.Contains(hasFields[q.Kind], "F") {
			continue
		}
		for _, fields := range []int{math.MinInt, -1, 0, 1, 2, 15, api.MaxFields, 17, 1000, math.MaxInt} {
			for _, field := range []int{math.MinInt, -1, 0, 1, fields - 2, fields - 1, fields, math.MaxInt, 1 << 32} {
				q.Field = field
				good := field >= 0 && field < fields
				wantCheck(t, q, fields, false, good)
				wantCheck(t, q, fields, true, good && modelPlain(q))
				for _, wrap := range wraps {
					wantCheck(t, wrap(q), fields, false, good && (fields >= 2 || modelGood(wrap(all), fields)))
				}
			}
		}
	}
	// A kind without a Field has 0 there, whatever the number of fields.
	for _, q := range goodOnes()[1:] {
		if strings.Contains(hasFields[q.Kind], "F") || q.Kind == api.QList {
			continue
		}
		for _, fields := range []int{math.MinInt, -1, 0, 1, api.MaxFields} {
			wantCheck(t, q, fields, true, true)
		}
		for _, field := range []int{-1, 1, 3} {
			q.Field = field
			wantBad(t, q)
		}
	}
}

// P16.1: N at its ends, below and above.
func TestN(t *testing.T) {
	most := map[int]int{api.QPhrase: api.MaxNumber, api.QFuzzy: 2, api.QList: api.MaxNumber}
	for kind, q := range goodOnes()[1:] {
		kind++
		for _, n := range []int{math.MinInt, -1, 0, 1, 2, 3, api.MaxNumber - 1, api.MaxNumber, api.MaxNumber + 1, 1 << 32, 1<<32 + 1, math.MaxInt} {
			q.N = n
			if 0 <= n && n <= most[kind] {
				wantCheck(t, q, api.MaxFields, false, true)
				holdQuery(t, q)
			} else {
				wantBad(t, q)
			}
		}
	}
}

// P16.1: a phrase has one term at least, and one Off for each, within its range.
func TestPhrases(t *testing.T) {
	terms := []string{"a", "", "a", "\x00", strings.Repeat("t", 100)}
	for n := range len(terms) + 1 {
		for m := range len(terms) + 2 {
			q := phrase(0, 0, 0, terms[:n], make([]int, m)...)
			if n > 0 && n == m {
				wantGood(t, q, 1)
			} else {
				wantBad(t, q)
			}
		}
	}
	for _, off := range []int{math.MinInt, -1, 0, 1, 2147483645, 2147483646, 2147483647, 2147483648, 1 << 32, math.MaxInt} {
		for at := range 3 {
			q := phrase(0, 7, 8, terms[:3], 5, 5, 0)
			q.Offs[at] = off
			if off >= 0 && off <= 2147483646 {
				wantGood(t, q, 1)
			} else {
				wantBad(t, q)
			}
		}
	}
}

// P16.1: patterns, whether in canonical form or not, and what is none.
func TestWilds(t *testing.T) {
	for _, text := range []string{"", "a", "*", "a*", "?", `\*`, `\a`, `\\`, `\\\*`, "a?*b", "\\\x00", "\\\n", "\n", "\xff?"} {
		wantGood(t, wild(0, text), 1)
	}
	for _, text := range []string{`\`, `a\`, `*\`, `\\\`, `\a\`, `?\?\`, "\xff\\"} {
		wantBad(t, wild(0, text))
	}
	// Other kinds of leaves take any text.
	for _, text := range []string{"", `\`, `a\`, "\x00", strings.Repeat("t", 100)} {
		wantGood(t, term(0, text, 0), 1)
		wantGood(t, prefix(0, text), 1)
		wantGood(t, fuzzy(0, 2, text), 1)
	}
}

// P16.1: any Weight.
func TestWeights(t *testing.T) {
	for _, w := range []uint64{0, 1, api.One, api.Top - 1, api.Top, api.Top + 1, math.MaxUint64} {
		wantGood(t, term(0, "a", w), 1)
		wantGood(t, phrase(0, 0, w, []string{"a"}, 0), 1)
		wantGood(t, boost(w, all), 0)
		wantGood(t, fixed(w, all), 0)
	}
}

// P16.1: an end that is open has nothing beside that; every other one may have anything.
func TestEnds(t *testing.T) {
	good, bad := []api.Bound{open()}, []api.Bound{}
	for _, text := range []string{"", "a", "*", "\x00"} {
		for _, in := range []bool{false, true} {
			good = append(good, api.Bound{In: in, Text: text})
			if in || text != "" {
				bad = append(bad, api.Bound{Open: true, In: in, Text: text})
			}
		}
	}
	for _, x := range good {
		for _, y := range good {
			wantGood(t, span(0, x, y), 1)
		}
		for _, y := range bad {
			wantBad(t, span(0, x, y))
			wantBad(t, span(0, y, x))
		}
	}
	wantBad(t, span(0, bad[0], bad[1]))
}

// P16.1: lists of no kid, of one, of several, and their Occurs.
func TestLists(t *testing.T) {
	kids := []api.Query{all, none, not(all)}
	for n := range 4 {
		for m := range 5 {
			q := api.Query{Kind: api.QList, Kids: kids[:n], Occur: make([]int, m)}
			if n > 0 && n == m {
				wantGood(t, q, 0)
			} else {
				wantBad(t, q)
			}
		}
	}
	for _, occur := range []int{math.MinInt, -1, 0, 1, 2, 3, 4, 256, 1 << 32, math.MaxInt} {
		for at := range 3 {
			q := list(1, " +-", kids...)
			q.Occur[at] = occur
			if occur >= 0 && occur <= 2 {
				wantGood(t, q, 0)
			} else {
				wantBad(t, q)
			}
		}
	}
}

// P16.1: no kid, one, two and three of the other kinds with kids.
func TestKids(t *testing.T) {
	kids := []api.Query{all, none, not(all)}
	for n := range 4 {
		if n > 0 {
			wantGood(t, most(kids[:n]...), 0)
		} else {
			wantBad(t, most())
		}
		for _, q := range []api.Query{not(kids[:n]...), boost(1, kids[:n]...), fixed(1, kids[:n]...)} {
			if n == 1 {
				wantGood(t, q, 0)
			} else {
				wantBad(t, q)
			}
		}
	}
	for _, q := range goodOnes()[1:api.QList] {
		q.Kids = kids[:1]
		wantBad(t, q)
	}
}

// P16.1: plain or not, wherever the multi-term leaf stands.
func TestPlain(t *testing.T) {
	for _, q := range goodOnes()[1:] {
		plain := q.Kind < api.QPrefix || q.Kind > api.QSpan
		wantCheck(t, q, api.MaxFields, true, plain)
		wantCheck(t, q, api.MaxFields, false, true)
		for _, one := range wraps {
			for _, two := range wraps {
				wantCheck(t, one(two(q)), api.MaxFields, true, plain)
				wantCheck(t, one(two(q)), api.MaxFields, false, true)
			}
		}
	}
}

// P16.1: a bad query deep inside a good one.
func TestBadInside(t *testing.T) {
	for _, bad := range []api.Query{{}, {Kind: 15}, {Kind: api.QAll, N: 1}, wild(0, `\`), fuzzy(0, 3, "a"), span(0, api.Bound{Open: true, In: true}, open()), phrase(0, 0, 0, nil), phrase(0, 0, 0, []string{"a"}, -1), most(), not(), not(all, all), list(0, "", all), list(-1, " ", all), has(-1), {Kind: api.QTerm, Kids: []api.Query{all}}} {
		for i := range wraps {
			q := bad
			for j := range 30 {
				q = wraps[(i+j*j)%len(wraps)](q)
			}
			wantCheck(t, q, api.MaxFields, false, false)
			wantCheck(t, q, api.MaxFields, true, false)
		}
		wantBad(t, most(bad, all))
		wantBad(t, most(all, bad))
		wantBad(t, list(0, " - ", all, bad, all))
	}
}

// P16.1: many queries, good ones and ones with one thing changed.
func TestManyQueries(t *testing.T) {
	m := newMaker(160)
	good, bad := 0, 0
	for range 10000 {
		fields := 1 + m.Intn(5)
		q := m.within(12).query(fields)
		wantCheck(t, q, fields, false, true)
		holdQuery(t, q)
		q = m.change(q)
		holdQuery(t, q)
		if modelGood(q, fields) {
			good++
		} else {
			bad++
		}
	}
	if good < 1000 || bad < 1000 {
		t.Errorf("of the queries with one thing changed %d are good and %d are not", good, bad)
	}
}
