package rewrite_test

import (
	"fmt"
	"reflect"

	"concord/api"
	"concord/bind"
)

// The model goes by the chapter's words one by one, over queries as they are: it takes every kid of every list in its hand again.

// modelMatch is M(q).
func modelMatch(q api.Query) api.Query {
	switch q.Kind {
	case api.QTerm, api.QPhrase:
		return modelLeaf(q, 0)
	case api.QBoost, api.QConst:
		return modelMatch(q.Kids[0])
	case api.QNot:
		return modelNot(modelMatch(q.Kids[0]))
	case api.QMax:
		var kids []api.Query
		for _, kid := range q.Kids {
			kids = append(kids, modelMatch(kid))
		}
		return modelList(false, 1, nil, kids, nil)
	case api.QList:
		return modelList(false, modelNeed(q), modelKids(q, api.Must, modelMatch), modelKids(q, api.Should, modelMatch), modelKids(q, api.MustNot, modelMatch))
	}
	return q
}

// modelScore is S(q, w).
func modelScore(q api.Query, w uint64) api.Query {
	times := func(kid api.Query) api.Query { return modelScore(kid, w) }
	switch {
	case w == 0:
		return modelFix(modelMatch(q), 0)
	case (q.Kind == api.QAll || q.Kind == api.QHas) && w != 1:
		return fixed(w, q)
	case q.Kind == api.QTerm || q.Kind == api.QPhrase:
		return modelLeaf(q, q.Weight*w)
	case q.Kind == api.QBoost:
		return modelScore(q.Kids[0], w*q.Weight)
	case q.Kind == api.QConst:
		return modelFix(modelMatch(q.Kids[0]), w*q.Weight)
	case q.Kind == api.QNot:
		return modelZeroNot(modelMatch(q.Kids[0]))
	case q.Kind == api.QMax:
		var kids []api.Query
		for _, kid := range q.Kids {
			kids = append(kids, times(kid))
		}
		return modelMax(kids)
	case q.Kind == api.QList:
		return modelList(true, modelNeed(q), modelKids(q, api.Must, times), modelKids(q, api.Should, times), modelKids(q, api.MustNot, modelMatch))
	}
	return q
}

func modelLeaf(q api.Query, w uint64) api.Query {
	if len(q.Terms) == 1 {
		return term(q.Field, q.Terms[0], w)
	}
	q.Weight = w
	return q
}

func modelNeed(q api.Query) int {
	if q.N > 0 {
		return q.N
	}
	for _, occur := range q.Occur {
		if occur == api.Must {
			return 0
		}
	}
	return 1
}

// modelKids are the kids of a list that occur so, in their forms.
func modelKids(q api.Query, occur int, formed func(q api.Query) api.Query) []api.Query {
	var kids []api.Query
	for i, kid := range q.Kids {
		if q.Occur[i] == occur {
			kids = append(kids, formed(kid))
		}
	}
	return kids
}

func modelFix(m api.Query, c uint64) api.Query {
	switch {
	case m.Kind == api.QNone,
		c == 1 && (m.Kind == api.QAll || m.Kind == api.QHas),
		c == 0 && (m.Kind == api.QTerm || m.Kind == api.QPhrase || m.Kind == api.QNot):
		return m
	}
	return fixed(c, m)
}

func modelNot(m api.Query) api.Query {
	switch m.Kind {
	case api.QNone:
		return all
	case api.QAll:
		return none
	case api.QNot:
		return m.Kids[0]
	}
	return not(m)
}

func modelZeroNot(m api.Query) api.Query {
	switch m.Kind {
	case api.QNone:
		return fixed(0, all)
	case api.QAll:
		return none
	case api.QNot:
		return modelFix(m.Kids[0], 0)
	}
	return not(m)
}

func modelMax(kids []api.Query) api.Query {
	var left []api.Query
	for _, kid := range kids {
		switch kid.Kind {
		case api.QNone:
		case api.QMax:
			left = append(left, kid.Kids...)
		default:
			left = append(left, kid)
		}
	}
	switch len(left) {
	case 0:
		return none
	case 1:
		return left[0]
	}
	return most(left...)
}

// gathering is a list whose kids are being brought in.
type gathering struct {
	scored               bool
	need                 int
	musts, shoulds, nots []api.Query
}

func (g *gathering) isAlways(x api.Query) bool {
	return x.Kind == api.QAll || g.scored && x.Kind == api.QConst && x.Kids[0].Kind == api.QAll
}

func (g *gathering) idle() api.Query {
	if g.scored {
		return fixed(0, all)
	}
	return all
}

func (g *gathering) must(x api.Query) {
	switch {
	case x.Kind == api.QNot:
		g.not(x.Kids[0])
	case x.Kind == api.QList && x.N == 0 && (countOf(x, api.Should) == 0 || g.need == 0):
		for i, kid := range x.Kids {
			[]func(x api.Query){api.Should: g.should, api.Must: g.must, api.MustNot: g.not}[x.Occur[i]](kid)
		}
	default:
		g.musts = append(g.musts, x)
	}
}

func (g *gathering) should(x api.Query) {
	switch {
	case x.Kind == api.QNone:
	case g.isAlways(x):
		g.musts = append(g.musts, x)
	case isShouldList(x) && g.need <= 1:
		for _, kid := range x.Kids {
			g.should(kid)
		}
	default:
		g.shoulds = append(g.shoulds, x)
	}
}

func (g *gathering) not(x api.Query) {
	switch {
	case x.Kind == api.QNone:
	case x.Kind == api.QNot && g.scored:
		g.must(modelFix(x.Kids[0], 0))
	case x.Kind == api.QNot:
		g.must(x.Kids[0])
	case isShouldList(x):
		for _, kid := range x.Kids {
			g.not(kid)
		}
	default:
		g.nots = append(g.nots, x)
	}
}

// countOf is how many kids of a list occur so.
func countOf(q api.Query, occur int) int {
	n := 0
	for _, x := range q.Occur {
		if x == occur {
			n++
		}
	}
	return n
}

func isShouldList(q api.Query) bool {
	return q.Kind == api.QList && q.N == 1 && countOf(q, api.Should) == len(q.Kids)
}

// modelList is list(need; musts; shoulds; nots).
func modelList(scored bool, need int, given, optional, nots []api.Query) api.Query {
	g := gathering{scored: scored, need: need}
	for _, x := range optional { // step 1
		if g.isAlways(x) && g.need > 0 {
			g.need--
		}
	}
	for _, x := range given { // step 2
		g.must(x)
	}
	for _, x := range optional {
		g.should(x)
	}
	for _, x := range nots {
		g.not(x)
	}
	for _, x := range g.musts { // step 3
		if x.Kind == api.QNone {
			return none
		}
	}
	for _, x := range g.nots {
		if x.Kind == api.QAll {
			return none
		}
	}
	var busy []api.Query // step 4
	for _, x := range g.musts {
		if !alike(x, g.idle()) {
			busy = append(busy, x)
		}
	}
	g.musts = busy
	if g.need > len(g.shoulds) { // step 5
		return none
	}
	if g.need > 0 && g.need == len(g.shoulds) {
		return modelList(scored, 0, append(g.musts, g.shoulds...), nil, g.nots)
	}
	return g.rest()
}

// rest is the steps 6 to 8.
func (g *gathering) rest() api.Query {
	if g.need == 0 && !g.scored {
		g.shoulds = nil
	}
	if g.need == 0 && len(g.musts) == 0 {
		switch {
		case len(g.shoulds) > 0:
			g.musts = []api.Query{g.idle()}
		case len(g.nots) == 0:
			return g.idle()
		case len(g.nots) == 1:
			return not(g.nots[0])
		default:
			return not(shoulds(1, g.nots...))
		}
	}
	if len(g.musts) == 1 && len(g.shoulds)+len(g.nots) == 0 {
		return g.musts[0]
	}
	out := put(api.Query{Kind: api.QList, N: g.need}, api.Must, g.musts)
	return put(put(out, api.Should, g.shoulds), api.MustNot, g.nots)
}

// put is a list with kids that occur so behind the others.
func put(q api.Query, occur int, kids []api.Query) api.Query {
	for _, kid := range kids {
		q.Kids, q.Occur = append(q.Kids, kid), append(q.Occur, occur)
	}
	return q
}

// alike tells whether two queries are the same in every field, by going over both at once without calling itself.
func alike(a, b api.Query) bool {
	left, right := []api.Query{a}, []api.Query{b}
	for len(left) > 0 {
		x, y := left[len(left)-1], right[len(right)-1]
		left, right = left[:len(left)-1], right[:len(right)-1]
		if len(x.Kids) != len(y.Kids) || !sameAlone(x, y) {
			return false
		}
		left, right = append(left, x.Kids...), append(right, y.Kids...)
	}
	return true
}

// sameAlone tells whether two queries are the same but for their kids, an empty list being none.
func sameAlone(x, y api.Query) bool {
	if x.Kind != y.Kind || x.Field != y.Field || x.Text != y.Text || x.N != y.N || x.Weight != y.Weight || x.Lo != y.Lo || x.Hi != y.Hi {
		return false
	}
	return sameList(x.Terms, y.Terms) && sameList(x.Offs, y.Offs) && sameList(x.Occur, y.Occur)
}

func sameList[E any](x, y []E) bool {
	return len(x)+len(y) == 0 || reflect.DeepEqual(x, y)
}

// faults are the clauses of P18.4 that a query doesn't keep.
func faults(q api.Query) []string {
	var out []string
	if bind.Check(q, api.MaxFields, true) != nil {
		return []string{"it isn't good"}
	}
	var look func(q api.Query, whole, bare bool)
	look = func(q api.Query, whole, bare bool) {
		tell := func(wrong bool, clause string) {
			if wrong {
				out = append(out, fmt.Sprintf("%s: %s", brief(q), clause))
			}
		}
		tell(q.Kind == api.QNone && !whole, "none inside")
		tell(q.Kind == api.QBoost, "a boost")
		tell(q.Kind == api.QPhrase && len(q.Terms) < 2, "a phrase of one term")
		tell(bare && (q.Kind == api.QConst || q.Kind == api.QMax || q.Weight != 0), "what counts, where nothing does")
		tell(bare && q.Kind == api.QList && modelNeed(q) == 0 && countOf(q, api.Should) > 0, "shoulds that don't count")
		tell(q.Kind == api.QList && modelNeed(q) != q.N, "a need that isn't N")
		tell(q.Kind == api.QList && q.N > 0 && q.N >= countOf(q, api.Should), "a need of all shoulds")
		for i, kid := range q.Kids {
			tell(q.Kind == api.QMax && kid.Kind == api.QMax, "a max in a max")
			inList := q.Kind == api.QList
			tell(inList && q.Occur[i] != api.Should && kid.Kind == api.QNot, "a must or a must-not that is a not")
			look(kid, false, bare || q.Kind == api.QConst || q.Kind == api.QNot || inList && q.Occur[i] == api.MustNot)
		}
	}
	look(q, true, false)
	return out
}
