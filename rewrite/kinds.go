package rewrite

import (
	"slices"

	"concord/api"
)

// rewriter has the rules of the two forms, each by the kind of the query.
type rewriter struct {
	matches []func(q *api.Query) *form
	scores  []func(q *api.Query, w uint64) *form
}

func newRewriter() *rewriter {
	r := &rewriter{}
	r.matches = r.matchRules()
	r.scores = r.scoreRules()
	return r
}

// match is the match form of a good query.
func (r *rewriter) match(q *api.Query) *form {
	return r.matches[q.Kind](q)
}

// score is the score form of a good query times w. Where nothing counts, it is the match form that does.
func (r *rewriter) score(q *api.Query, w uint64) *form {
	if w == 0 {
		return fix(r.match(q), 0)
	}
	return r.scores[q.Kind](q, w)
}

// matchRules are the rules of the match form.
func (r *rewriter) matchRules() []func(q *api.Query) *form {
	leaf := func(q *api.Query) *form { return weighted(q, 0) }
	inner := func(q *api.Query) *form { return r.match(&q.Kids[0]) }
	return []func(q *api.Query) *form{
		api.QNone:   func(*api.Query) *form { return none() },
		api.QAll:    func(*api.Query) *form { return all() },
		api.QHas:    func(q *api.Query) *form { return has(q.Field) },
		api.QTerm:   leaf,
		api.QPhrase: leaf,
		api.QBoost:  inner,
		api.QConst:  inner,
		api.QNot:    func(q *api.Query) *form { return not(inner(q)) },
		api.QMax: func(q *api.Query) *form {
			return listed(false, 1, nil, each(q.Kids, r.match), nil)
		},
		api.QList: func(q *api.Query) *form { return r.list(false, q, r.match) },
	}
}

// scoreRules are the rules of the score form, for weights above 0.
func (r *rewriter) scoreRules() []func(q *api.Query, w uint64) *form {
	leaf := func(q *api.Query, w uint64) *form { return weighted(q, q.Weight*w) }
	whole := func(q *api.Query, w uint64) *form { return fix(r.match(q), w) }
	times := func(w uint64) func(q *api.Query) *form {
		return func(q *api.Query) *form { return r.score(q, w) }
	}
	return []func(q *api.Query, w uint64) *form{
		api.QNone:   whole,
		api.QAll:    whole,
		api.QHas:    whole,
		api.QTerm:   leaf,
		api.QPhrase: leaf,
		api.QBoost:  func(q *api.Query, w uint64) *form { return r.score(&q.Kids[0], w*q.Weight) },
		api.QConst:  func(q *api.Query, w uint64) *form { return fix(r.match(&q.Kids[0]), w*q.Weight) },
		api.QNot:    func(q *api.Query, _ uint64) *form { return zeroNot(r.match(&q.Kids[0])) },
		api.QMax:    func(q *api.Query, w uint64) *form { return greatest(each(q.Kids, times(w))) },
		api.QList:   func(q *api.Query, w uint64) *form { return r.list(true, q, times(w)) },
	}
}

// each is the forms of kids.
func each(kids []api.Query, formed func(q *api.Query) *form) []*form {
	var forms []*form
	for i := range kids {
		forms = append(forms, formed(&kids[i]))
	}
	return forms
}

// list is the form of a QList whose kids but the nots have these forms.
func (r *rewriter) list(scored bool, q *api.Query, formed func(q *api.Query) *form) *form {
	var musts, shoulds, nots []*form
	for i := range q.Kids {
		switch kid := &q.Kids[i]; q.Occur[i] {
		case api.Must:
			musts = append(musts, formed(kid))
		case api.Should:
			shoulds = append(shoulds, formed(kid))
		default:
			nots = append(nots, r.match(kid))
		}
	}
	return listed(scored, needOf(q), musts, shoulds, nots)
}

// needOf is how many shoulds of a QList have to match at least.
func needOf(q *api.Query) int {
	if q.N == 0 && !slices.Contains(q.Occur, api.Must) {
		return 1
	}
	return q.N
}
