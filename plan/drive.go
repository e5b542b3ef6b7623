package plan

import (
	"cmp"
	"maps"
	"slices"
	"strings"

	"concord/api"
)

// drive is what drives a query: all documents, or those of a set of leaves. A leaf has its cost beside it.
type drive struct {
	all    bool
	price  int
	leaves map[api.Leaf]int
}

// drive is what drives an ordered node.
func (c *coster) drive(n *node) drive {
	switch n.own.Kind {
	case api.QAll, api.QHas, api.QNot:
		return drive{all: true, price: c.live}
	case api.QTerm, api.QPhrase:
		leaf := c.rarest(n.own)
		cost := c.leafCost(leaf)
		return drive{price: cost, leaves: map[api.Leaf]int{leaf: cost}}
	case api.QMax, api.QBoost, api.QConst:
		return c.together(n.kids)
	case api.QList:
		return c.listDrive(n)
	}
	return drive{}
}

// together is the drives of kids as one.
func (c *coster) together(kids []*node) drive {
	var out drive
	for _, kid := range kids {
		d := c.drive(kid)
		if d.all {
			return d
		}
		out = union(out, d)
	}
	return out
}

// union writes the smaller set into the greater one, so that the leaves of deeply nested queries aren't copied at each node. Nobody asks for the two drives again.
func union(a, b drive) drive {
	if len(a.leaves) < len(b.leaves) {
		a, b = b, a
	}
	for leaf, cost := range b.leaves {
		if _, known := a.leaves[leaf]; !known {
			a.leaves[leaf] = cost
			a.price += cost
		}
	}
	return a
}

// listDrive is what drives a QList: the first of the cheapest candidates.
func (c *coster) listDrive(n *node) drive {
	var candidates []drive
	for _, kid := range n.that(api.Must) {
		candidates = append(candidates, c.drive(kid))
	}
	shoulds := n.that(api.Should)
	switch need := n.need(); {
	case need > len(shoulds):
		candidates = append(candidates, drive{})
	case need > 0:
		candidates = append(candidates, c.together(shoulds[:len(shoulds)-need+1]))
	}
	return slices.MinFunc(candidates, func(a, b drive) int { return cmp.Compare(a.price, b.price) })
}

// list is the leaves in their order, in new memory.
func (d drive) list() []api.Leaf {
	leaves := slices.SortedFunc(maps.Keys(d.leaves), func(a, b api.Leaf) int {
		return cmp.Or(cmp.Compare(a.Field, b.Field), cmp.Compare(a.Term, b.Term))
	})
	for i, leaf := range leaves {
		leaves[i].Term = strings.Clone(leaf.Term)
	}
	return leaves
}
