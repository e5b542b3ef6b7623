package compile

import (
	"cmp"
	"slices"
	"strings"

	"concord/api"
	"concord/score"
)

// putTables puts all tables in but the phrases, which come with the instructions that ask for them.
func (e *emitter) putTables(pl api.Plan, st api.Stats) {
	for field := range st.Sums {
		e.Avgs = append(e.Avgs, score.Avg(st, field))
	}
	e.putCursors(append(leavesOf(nil, &pl.Root), pl.Drive...))
	e.All = pl.All
	for _, leaf := range pl.Drive {
		e.Drive = append(e.Drive, e.cursorOf(leaf))
	}
	slices.Sort(e.Drive)
	e.Drive = slices.Compact(e.Drive)
}

// leavesOf puts the leaves in a query behind the others, each as often as it stands there.
func leavesOf(leaves []api.Leaf, q *api.Query) []api.Leaf {
	if q.Kind == api.QTerm {
		leaves = append(leaves, api.Leaf{Field: q.Field, Term: q.Text})
	}
	for _, term := range q.Terms {
		leaves = append(leaves, api.Leaf{Field: q.Field, Term: term})
	}
	for i := range q.Kids {
		leaves = leavesOf(leaves, &q.Kids[i])
	}
	return leaves
}

// putCursors puts in a cursor for each of the leaves.
func (e *emitter) putCursors(leaves []api.Leaf) {
	slices.SortFunc(leaves, compareLeaves)
	for _, leaf := range slices.Compact(leaves) {
		e.Cursors = append(e.Cursors, api.Leaf{Field: leaf.Field, Term: strings.Clone(leaf.Term)})
	}
}

func compareLeaves(a, b api.Leaf) int {
	return cmp.Or(cmp.Compare(a.Field, b.Field), cmp.Compare(a.Term, b.Term))
}

// cursorOf is the number of a leaf's cursor. There is one for each leaf of the plan.
func (e *emitter) cursorOf(leaf api.Leaf) int {
	i, _ := slices.BinarySearchFunc(e.Cursors, leaf, compareLeaves)
	return i
}

// putNear puts a phrase in, and answers its number.
func (e *emitter) putNear(q *api.Query) int {
	near := api.Near{Offs: slices.Clone(q.Offs), Slop: q.N}
	for _, term := range q.Terms {
		near.Cursors = append(near.Cursors, e.cursorOf(api.Leaf{Field: q.Field, Term: term}))
	}
	e.Nears = append(e.Nears, near)
	return len(e.Nears) - 1
}
