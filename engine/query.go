package engine

import (
	"math"

	"concord/api"
	"concord/bind"
	"concord/compile"
	"concord/expand"
	"concord/plan"
	"concord/rewrite"
	"concord/score"
	"concord/syntax"
	"concord/topk"
	"concord/vm"
)

// Query is a query text's bound query.
func (e *Engine) Query(q string) (api.Query, error) {
	tree, _, err := syntax.Parse(q)
	if err != nil {
		return api.Query{}, err
	}
	return bind.Bind(e.schema, tree)
}

// Program is the program that a query text comes to.
func (e *Engine) Program(q string) (api.Prog, error) {
	e.Cut()
	x, err := e.expanded(q)
	if err != nil {
		return api.Prog{}, err
	}
	if e.optimise {
		if x, err = rewrite.Normal(x); err != nil {
			return api.Prog{}, err
		}
	}
	pl, err := plan.Make(x, e.parts, e.optimise)
	if err != nil {
		return api.Prog{}, err
	}
	return compile.Program(pl, score.Gather(e.schema, e.parts))
}

// expanded is a query text's expanded query over the parts; the outcome's error, if it has one.
func (e *Engine) expanded(q string) (api.Query, error) {
	bound, err := e.Query(q)
	if err != nil {
		return api.Query{}, err
	}
	x, err := expand.Expand(e.schema, bound, e.parts)
	if err != nil {
		return api.Query{}, err
	}
	most, err := expand.Bound(x)
	if err != nil {
		return api.Query{}, err
	}
	if most >= api.Top {
		return api.Query{}, api.ErrScore
	}
	return x, nil
}

// matches are the hits of all live documents that a query text matches; the outcome's error, if it has one. It cuts.
func (e *Engine) matches(q string) ([]api.Hit, error) {
	p, err := e.Program(q)
	if err != nil {
		return nil, err
	}
	var hits []api.Hit
	for _, part := range e.parts {
		run, err := vm.Run(p, part, math.MaxInt)
		if err != nil {
			return nil, err
		}
		hits = append(hits, run.Hits...)
	}
	return hits, nil
}

// Search is the first k hits of a query text.
func (e *Engine) Search(q string, k int) ([]api.Hit, error) {
	hits, err := e.matches(q)
	return topk.Select(hits, k), err
}

// After is the first k hits of a query text behind a hit.
func (e *Engine) After(q string, h api.Hit, k int) ([]api.Hit, error) {
	hits, err := e.matches(q)
	return topk.After(hits, h, k), err
}

// Count is the number of documents that a query text matches.
func (e *Engine) Count(q string) (int, error) {
	hits, err := e.matches(q)
	return len(hits), err
}

// DeleteBy deletes all documents that a query text matches, and tells how many.
func (e *Engine) DeleteBy(q string) (int, error) {
	hits, err := e.matches(q)
	for _, h := range hits {
		// A hit is a live document: it isn't refused.
		e.Delete(h.Id)
	}
	return len(hits), err
}
