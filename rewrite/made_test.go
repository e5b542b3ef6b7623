package rewrite_test

import (
	"fmt"
	"math"
	"math/rand"
	"strings"
	"testing"

	"concord/api"
	"concord/bind"
	"concord/rewrite"
)

// The queries, by their kinds.
var (
	none = api.Query{Kind: api.QNone}
	all  = api.Query{Kind: api.QAll}
	idle = fixed(0, all)
)

// Terms with weights, and the same with none.
var (
	a, b, c, d     = term(0, "a", 2), term(0, "b", 3), term(1, "c", 5), term(0, "d", 7)
	a0, b0, c0, d0 = term(0, "a", 0), term(0, "b", 0), term(1, "c", 0), term(0, "d", 0)
)

func has(f int) api.Query { return api.Query{Kind: api.QHas, Field: f} }
func term(f int, text string, w uint64) api.Query {
	return api.Query{Kind: api.QTerm, Field: f, Text: text, Weight: w}
}

// phrase is a phrase of the words of a text, one position apart.
func phrase(f, n int, w uint64, words string) api.Query {
	q := api.Query{Kind: api.QPhrase, Field: f, N: n, Weight: w, Terms: strings.Fields(words)}
	for i := range q.Terms {
		q.Offs = append(q.Offs, i)
	}
	return q
}

// list is a list whose kids occur by signs, one a kid: blank, + or -.
func list(n int, signs string, kids ...api.Query) api.Query {
	q := api.Query{Kind: api.QList, N: n, Kids: kids}
	for _, sign := range signs {
		q.Occur = append(q.Occur, strings.IndexRune(" +-", sign))
	}
	return q
}

// shoulds is a list of shoulds alone, musts one of musts.
func shoulds(n int, kids ...api.Query) api.Query {
	return list(n, strings.Repeat(" ", len(kids)), kids...)
}
func musts(kids ...api.Query) api.Query { return list(0, strings.Repeat("+", len(kids)), kids...) }
func most(kids ...api.Query) api.Query  { return api.Query{Kind: api.QMax, Kids: kids} }
func not(kids ...api.Query) api.Query   { return api.Query{Kind: api.QNot, Kids: kids} }
func boost(w uint64, kids ...api.Query) api.Query {
	return api.Query{Kind: api.QBoost, Weight: w, Kids: kids}
}
func fixed(w uint64, kids ...api.Query) api.Query {
	return api.Query{Kind: api.QConst, Weight: w, Kids: kids}
}

// wraps are ways to put a query into a good one; each has one or several such places.
var wraps = []func(q api.Query) api.Query{
	func(q api.Query) api.Query { return q },
	func(q api.Query) api.Query { return not(q) },
	func(q api.Query) api.Query { return boost(3, q) },
	func(q api.Query) api.Query { return boost(0, q) },
	func(q api.Query) api.Query { return fixed(5, q) },
	func(q api.Query) api.Query { return most(q) },
	func(q api.Query) api.Query { return most(d, q, none, q) },
	func(q api.Query) api.Query { return list(0, " ", q) },
	func(q api.Query) api.Query { return list(0, "+", q) },
	func(q api.Query) api.Query { return list(0, "+-", d, q) },
	func(q api.Query) api.Query { return list(2, "  + ", d, q, has(3), b) },
	func(q api.Query) api.Query { return list(0, "+- +", q, d, q, has(0)) },
	func(q api.Query) api.Query { return boost(0, list(1, " -", not(fixed(0, q)), most(q))) },
}

// brief is the beginning of what a value looks like.
func brief(v any) string {
	if q, ok := v.(api.Query); ok && bind.Check(q, api.MaxFields, false) == nil {
		v = bind.Text(q)
	}
	text := fmt.Sprintf("%+v", v)
	return text[:min(len(text), 1500)]
}

// mustNormal is the normal form of a query, held against the model.
func mustNormal(t testing.TB, q api.Query) api.Query {
	t.Helper()
	n, err := rewrite.Normal(q)
	if want := modelScore(q, 1); err != nil || !alike(n, want) {
		t.Fatalf("Normal(%s) is %s, %v, want %s", brief(q), brief(n), err, brief(want))
	}
	return n
}

// mustBare is the bare form of a query, held against the model.
func mustBare(t testing.TB, q api.Query) api.Query {
	t.Helper()
	n, err := rewrite.Bare(q)
	if want := modelFix(modelMatch(q), 0); err != nil || !alike(n, want) {
		t.Fatalf("Bare(%s) is %s, %v, want %s", brief(q), brief(n), err, brief(want))
	}
	return n
}

// holdQuery holds the three calls over a good query against the model.
func holdQuery(t testing.TB, q api.Query) {
	t.Helper()
	n := mustNormal(t, q)
	mustBare(t, q)
	if rewrite.Is(q) != alike(q, n) {
		t.Fatalf("Is(%s) is %v, and its normal form is %s", brief(q), rewrite.Is(q), brief(n))
	}
}

// wantRefused says that the three calls take a query for one that isn't good.
func wantRefused(t testing.TB, q api.Query) {
	t.Helper()
	n, err := rewrite.Normal(q)
	if err != api.ErrNode || !alike(n, api.Query{}) {
		t.Errorf("Normal(%s) is %s, %v", brief(q), brief(n), err)
	}
	n, err = rewrite.Bare(q)
	if err != api.ErrNode || !alike(n, api.Query{}) {
		t.Errorf("Bare(%s) is %s, %v", brief(q), brief(n), err)
	}
	if rewrite.Is(q) {
		t.Errorf("Is(%s)", brief(q))
	}
}

// maker makes queries out of dice.
type maker struct {
	*rand.Rand
	room int
}

func newMaker(seed int64) *maker {
	return &maker{Rand: rand.New(rand.NewSource(seed))}
}

// within is a maker with room for so many nodes at most.
func (m *maker) within(room int) *maker {
	m.room = 1 + m.Intn(room)
	return m
}

func pickOf[T any](m *maker, list ...T) T {
	return list[m.Intn(len(list))]
}

// weight is a weight from 0 up to the greatest; products of few of them go over 2^64.
func (m *maker) weight() uint64 {
	return pickOf[uint64](m, 0, 1, 2, 3, 1000, 1<<31, 1<<32, 1<<32+1, 1<<44, 1<<53, 1<<63-1, 1<<63, m.Uint64(), math.MaxUint64)
}

// small is a weight by which a score stays below Top.
func (m *maker) small() uint64 {
	return uint64(m.Intn(5))
}

// unit is 0 or 1.
func (m *maker) unit() uint64 {
	return uint64(m.Intn(2))
}

// leaf is a leaf of a plain query; leaves of few terms, so that several are alike.
func (m *maker) leaf(weight func() uint64) api.Query {
	switch m.Intn(12) {
	case 0:
		return none
	case 1, 2:
		return all
	case 3:
		return has(pickOf(m, 0, 1, api.MaxFields-1))
	case 4:
		return fixed(weight(), all)
	case 5:
		return m.phrase(weight)
	}
	return term(pickOf(m, 0, 0, 1, api.MaxFields-1), pickOf(m, "a", "b", "c", "d", "e", "", "\x00\xff"), weight())
}

func (m *maker) phrase(weight func() uint64) api.Query {
	q := api.Query{Kind: api.QPhrase, Field: m.Intn(2), N: pickOf(m, 0, 1, 5, api.MaxNumber), Weight: weight()}
	for range 1 + m.Intn(3) {
		q.Terms = append(q.Terms, pickOf(m, "a", "b", "c", ""))
		q.Offs = append(q.Offs, pickOf(m, 0, 1, m.Intn(10), api.EndDoc-1))
	}
	return q
}

// query is a good, plain query.
func (m *maker) query(weight func() uint64) api.Query {
	m.room--
	if m.room <= 0 || m.Intn(6) == 0 {
		return m.leafOrEmpty(weight)
	}
	kids := []api.Query{m.query(weight)}
	switch m.Intn(9) {
	case 0:
		return not(kids...)
	case 1:
		return boost(weight(), kids...)
	case 2:
		return fixed(weight(), kids...)
	}
	signs := pickOf(m, " ", "+", "-")
	for range m.Intn(4) {
		kids = append(kids, m.query(weight))
		signs += pickOf(m, " ", " ", "+", "-")
	}
	if m.Intn(5) == 0 {
		return most(kids...)
	}
	return list(pickOf(m, 0, 0, 0, 1, 2, 3, api.MaxNumber), signs, kids...)
}

// leafOrEmpty is a leaf; the empty lists that it has may be lists with room.
func (m *maker) leafOrEmpty(weight func() uint64) api.Query {
	q := m.leaf(weight)
	if m.Intn(10) == 0 && len(q.Kids) == 0 {
		q.Terms, q.Offs = append(make([]string, 0, 5), q.Terms...), append(make([]int, 0, 5), q.Offs...)
		q.Kids, q.Occur = make([]api.Query, 0, 2), make([]int, 0, 3)
	}
	return q
}

// kinds counts what was met, by names.
type kinds map[string]int

// note counts a name, if it holds.
func (k kinds) note(name string, holds bool) {
	if holds {
		k[name]++
	}
}

// wantMany says that each of the names was met so often at least.
func (k kinds) wantMany(t testing.TB, least int, names ...string) {
	t.Helper()
	for _, name := range names {
		if k[name] < least {
			t.Errorf("only %d of the kind %q", k[name], name)
		}
	}
}

// badOnes are queries that aren't good over any number of fields.
func badOnes() []api.Query {
	with := func(q api.Query, set func(q *api.Query)) api.Query {
		set(&q)
		return q
	}
	return []api.Query{
		{}, {Kind: -1}, {Kind: api.QConst + 1}, {Kind: api.QConst + 1, Kids: []api.Query{a}}, {Kind: 256 + api.QTerm, Text: "ab"}, {Kind: math.MaxInt}, {Kind: math.MinInt},
		with(all, func(q *api.Query) { q.Text = "x" }),
		with(all, func(q *api.Query) { q.Kids = []api.Query{a} }),
		with(none, func(q *api.Query) { q.Field = 1 }),
		with(has(0), func(q *api.Query) { q.Weight = 1 }),
		has(-1), has(api.MaxFields),
		with(a, func(q *api.Query) { q.Field = -1 }),
		with(a, func(q *api.Query) { q.Field = api.MaxFields }),
		with(a, func(q *api.Query) { q.N = 1 }),
		with(a, func(q *api.Query) { q.Terms = []string{"a"} }),
		with(a, func(q *api.Query) { q.Lo = api.Bound{Open: true} }),
		with(a, func(q *api.Query) { q.Kids = []api.Query{all} }),
		with(phrase(0, 0, 0, "ab x"), func(q *api.Query) { q.Offs = q.Offs[:1] }),
		with(phrase(0, 0, 0, "ab"), func(q *api.Query) { q.Offs = nil }),
		with(phrase(0, 0, 0, "ab x"), func(q *api.Query) { q.Offs = []int{0, -1} }),
		with(phrase(0, 0, 0, "ab"), func(q *api.Query) { q.Offs = []int{api.EndDoc} }),
		with(phrase(0, 0, 0, "ab"), func(q *api.Query) { q.N = api.MaxNumber + 1 }),
		with(phrase(0, 0, 0, "ab"), func(q *api.Query) { q.Text = "ab" }),
		phrase(0, 0, 0, ""),
		list(0, ""), list(0, " ", a, a), list(0, "  ", a), list(-1, " ", a), list(api.MaxNumber+1, " ", a),
		with(list(0, " ", a), func(q *api.Query) { q.Occur = []int{3} }),
		with(list(0, " ", a), func(q *api.Query) { q.Occur = []int{-1} }),
		with(list(0, " ", a), func(q *api.Query) { q.Weight = 1 }),
		most(), with(most(a), func(q *api.Query) { q.Occur = []int{0} }), with(most(a), func(q *api.Query) { q.N = 1 }),
		not(), not(a, a), with(not(a), func(q *api.Query) { q.Weight = 1 }),
		boost(1), boost(1, a, a), boost(0), with(boost(1, a), func(q *api.Query) { q.N = 1 }),
		fixed(1), fixed(1, a, a), fixed(0), with(fixed(1, a), func(q *api.Query) { q.Text = "x" }),
	}
}

// manyTermOnes are good queries that aren't plain.
func manyTermOnes() []api.Query {
	return []api.Query{
		{Kind: api.QPrefix, Text: "ab"}, {Kind: api.QWild, Text: "a*"}, {Kind: api.QFuzzy, Text: "ab", N: 1},
		{Kind: api.QSpan, Lo: api.Bound{Open: true}, Hi: api.Bound{In: true, Text: "b"}},
	}
}
