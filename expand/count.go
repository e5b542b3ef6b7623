package expand

import (
	"iter"

	"concord/api"
	"concord/auto"
	"concord/segment"
)

// countOf is the count of a good query.
func countOf(q api.Query, parts []*segment.Part) int {
	count := 0
	switch q.Kind {
	case api.QTerm:
		count = 1
	case api.QPhrase:
		count = len(q.Terms)
	case api.QPrefix, api.QWild, api.QFuzzy, api.QSpan:
		for range leafTerms(q, parts) {
			count++
		}
	default:
		for _, kid := range q.Kids {
			count += countOf(kid, parts)
		}
	}
	return count
}

// leafTerms goes over the terms that a multi-term leaf means.
func leafTerms(q api.Query, parts []*segment.Part) iter.Seq2[string, int] {
	return Terms(parts, q.Field, automaton(q))
}

// automaton is the automaton of a multi-term leaf. In a good query neither Wild nor Fuzzy refuses what the leaf has.
func automaton(q api.Query) *auto.Auto {
	var a *auto.Auto
	switch q.Kind {
	case api.QPrefix:
		a = auto.Prefix(q.Text)
	case api.QWild:
		a, _ = auto.Wild(q.Text)
	case api.QFuzzy:
		a, _ = auto.Fuzzy(q.Text, q.N)
	case api.QSpan:
		a = auto.Span(q.Lo, q.Hi)
	}
	return a
}
