package plan

import (
	"cmp"
	"slices"
	"strings"

	"concord/api"
)

// node is a good query whose kids may be put into another order.
type node struct {
	own   *api.Query // the one that was handed in, with its kids in their first order
	occur int        // in the list that it is a kid of
	cost  int
	kids  []*node
}

// places are where the kids of a list stand, by their Occurs.
var places = [...]int{api.Must: 0, api.MustNot: 1, api.Should: 2}

func nodeOf(q *api.Query) *node {
	n := &node{own: q}
	for i := range q.Kids {
		kid := nodeOf(&q.Kids[i])
		if q.Kind == api.QList {
			kid.occur = q.Occur[i]
		}
		n.kids = append(n.kids, kid)
	}
	return n
}

// that are the kids that occur so.
func (n *node) that(occur int) []*node {
	var kids []*node
	for _, kid := range n.kids {
		if kid.occur == occur {
			kids = append(kids, kid)
		}
	}
	return kids
}

// need is how many shoulds of a QList have to match at least.
func (n *node) need() int {
	if n.own.N == 0 && !slices.Contains(n.own.Occur, api.Must) {
		return 1
	}
	return n.own.N
}

// order puts the kids of every node into order. The kids of a QMax are all of one Occur.
func (n *node) order() {
	for _, kid := range n.kids {
		kid.order()
	}
	slices.SortStableFunc(n.kids, compareKids)
}

func compareKids(a, b *node) int {
	if a.occur != b.occur {
		return cmp.Compare(places[a.occur], places[b.occur])
	}
	if a.occur == api.MustNot {
		return cmp.Compare(b.cost, a.cost)
	}
	return cmp.Compare(a.cost, b.cost)
}

// query is the node as a query, in new memory.
func (n *node) query() api.Query {
	out := *n.own
	out.Text = strings.Clone(out.Text)
	out.Offs = slices.Clone(out.Offs)
	out.Terms = slices.Clone(out.Terms)
	for i, term := range out.Terms {
		out.Terms[i] = strings.Clone(term)
	}
	out.Kids, out.Occur = nil, nil
	for _, kid := range n.kids {
		out.Kids = append(out.Kids, kid.query())
		if out.Kind == api.QList {
			out.Occur = append(out.Occur, kid.occur)
		}
	}
	return out
}
