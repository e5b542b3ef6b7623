package expand

import (
	"strings"

	"concord/api"
	"concord/auto"
	"concord/score"
	"concord/segment"
)

// expander expands good queries over parts with so many live documents.
type expander struct {
	parts []*segment.Part
	docs  int
}

func newExpander(parts []*segment.Part) expander {
	x := expander{parts: parts}
	for _, p := range parts {
		x.docs += p.Live()
	}
	return x
}

// expanded is a query in memory of its own, its leaves expanded.
func (x expander) expanded(q api.Query) api.Query {
	switch q.Kind {
	case api.QTerm:
		return x.term(q)
	case api.QPhrase:
		return x.phrase(q)
	case api.QPrefix, api.QWild, api.QFuzzy, api.QSpan:
		return x.manyTerms(q)
	}
	out := api.Query{Kind: q.Kind, Field: q.Field, N: q.N, Weight: q.Weight}
	out.Occur = append(out.Occur, q.Occur...)
	for _, kid := range q.Kids {
		out.Kids = append(out.Kids, x.expanded(kid))
	}
	return out
}

func (x expander) term(q api.Query) api.Query {
	df := score.Df(x.parts, q.Field, q.Text)
	if df == 0 {
		return none()
	}
	return x.weighted(q.Field, strings.Clone(q.Text), df)
}

// weighted is a term, that so many live documents have, with its rarity.
func (x expander) weighted(field int, term string, df int) api.Query {
	return api.Query{Kind: api.QTerm, Field: field, Text: term, Weight: score.Idf(x.docs, df)}
}

func (x expander) phrase(q api.Query) api.Query {
	out := api.Query{Kind: api.QPhrase, Field: q.Field, N: q.N}
	out.Offs = append(out.Offs, q.Offs...)
	for _, term := range q.Terms {
		df := score.Df(x.parts, q.Field, term)
		if df == 0 {
			return none()
		}
		out.Terms = append(out.Terms, strings.Clone(term))
		out.Weight += score.Idf(x.docs, df)
	}
	return out
}

// manyTerms is a multi-term leaf as the list of its terms.
func (x expander) manyTerms(q api.Query) api.Query {
	out := api.Query{Kind: api.QList}
	for term, df := range leafTerms(q, x.parts) {
		out.Kids = append(out.Kids, boosted(x.weighted(q.Field, term, df), nearness(q, term)))
		out.Occur = append(out.Occur, api.Should)
	}
	if len(out.Kids) == 0 {
		return none()
	}
	return out
}

// nearness is how often the score of one of its terms counts in that of a multi-term leaf: the more, the nearer it is to a fuzzy word.
func nearness(q api.Query, term string) int {
	if q.Kind != api.QFuzzy {
		return 1
	}
	return q.N + 1 - auto.Edits(q.Text, term, q.N)
}

// boosted is a query whose score counts so often, once at least.
func boosted(q api.Query, times int) api.Query {
	if times == 1 {
		return q
	}
	return api.Query{Kind: api.QBoost, Weight: uint64(times), Kids: []api.Query{q}}
}

func none() api.Query {
	return api.Query{Kind: api.QNone}
}
