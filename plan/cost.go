package plan

import (
	"slices"

	"concord/api"
	"concord/segment"
)

// coster tells costs over parts.
type coster struct {
	parts  []*segment.Part
	live   int
	leaves map[api.Leaf]int // the costs of those that were asked for
}

func newCoster(parts []*segment.Part) *coster {
	c := &coster{parts: parts, leaves: map[api.Leaf]int{}}
	for _, p := range parts {
		c.live += p.Live()
	}
	return c
}

// putCosts puts the costs in, from the leaves up.
func (c *coster) putCosts(n *node) {
	for _, kid := range n.kids {
		c.putCosts(kid)
	}
	n.cost = c.cost(n)
}

// cost is the cost of a node whose kids have theirs.
func (c *coster) cost(n *node) int {
	switch n.own.Kind {
	case api.QAll, api.QHas, api.QNot:
		return c.live
	case api.QTerm, api.QPhrase:
		return c.leafCost(c.rarest(n.own))
	case api.QMax, api.QBoost, api.QConst:
		return sumOf(n.kids)
	case api.QList:
		return listCost(n)
	}
	return 0
}

// rarest is the leaf of a QTerm; of a QPhrase the first one with the least cost.
func (c *coster) rarest(q *api.Query) api.Leaf {
	if q.Kind == api.QTerm {
		return api.Leaf{Field: q.Field, Term: q.Text}
	}
	best := api.Leaf{Field: q.Field, Term: q.Terms[0]}
	for _, term := range q.Terms[1:] {
		if leaf := (api.Leaf{Field: q.Field, Term: term}); c.leafCost(leaf) < c.leafCost(best) {
			best = leaf
		}
	}
	return best
}

func (c *coster) leafCost(leaf api.Leaf) int {
	cost, known := c.leaves[leaf]
	if !known {
		key := segment.Key(leaf.Field, leaf.Term)
		for _, p := range c.parts {
			cost += docsOf(p, key)
		}
		c.leaves[leaf] = cost
	}
	return cost
}

// docsOf is how many documents of a part have the term of this key, dead ones included.
func docsOf(p *segment.Part, key string) int {
	d := p.Dict()
	i, found := d.Find(key)
	if !found {
		return 0
	}
	entry, _ := d.At(i)
	return entry.Docs
}

func sumOf(kids []*node) int {
	sum := 0
	for _, kid := range kids {
		sum += kid.cost
	}
	return sum
}

// listCost is the cost of a QList. There is always one to choose from: without a must, need is 1 or more.
func listCost(n *node) int {
	var costs []int
	for _, kid := range n.that(api.Must) {
		costs = append(costs, kid.cost)
	}
	shoulds := n.that(api.Should)
	switch need := n.need(); {
	case need > len(shoulds):
		costs = append(costs, 0)
	case need > 0:
		costs = append(costs, sumOf(shoulds))
	}
	return slices.Min(costs)
}
