package merge_test

import (
	"cmp"
	"math/big"
	"slices"
	"strings"

	"concord/api"
	"concord/tokens"
)

// modelRows are the rows of a list's live documents, by their tokens, document by document.
func modelRows(list []made) []api.Row {
	found := map[api.Leaf][]api.Posting{}
	number := 0
	for _, m := range list {
		for _, d := range m.live() {
			for leaf, pos := range positions(m.s, d) {
				found[leaf] = append(found[leaf], api.Posting{Doc: number, Pos: pos})
			}
			number++
		}
	}
	var rows []api.Row
	for leaf, posts := range found {
		rows = append(rows, api.Row{Field: leaf.Field, Term: leaf.Term, Posts: posts})
	}
	slices.SortFunc(rows, func(a, b api.Row) int {
		return cmp.Or(a.Field-b.Field, strings.Compare(a.Term, b.Term))
	})
	return rows
}

// positions are those of all terms of a document.
func positions(s api.Schema, d api.Doc) map[api.Leaf][]int {
	found := map[api.Leaf][]int{}
	for field := range s.Fields {
		for _, token := range tokens.Field(s, field, d.Values) {
			leaf := api.Leaf{Field: field, Term: token.Text}
			found[leaf] = append(found[leaf], token.Pos)
		}
	}
	return found
}

// sameRows tells whether rows have the same fields, terms and postings.
func sameRows(a, b []api.Row) bool {
	return slices.EqualFunc(a, b, func(x, y api.Row) bool {
		return x.Field == y.Field && x.Term == y.Term && slices.EqualFunc(x.Posts, y.Posts, func(p, q api.Posting) bool {
			return p.Doc == q.Doc && slices.Equal(p.Pos, q.Pos)
		})
	})
}

// modelLevel is the greatest e with fan to the power e at most the size, by unbounded powers.
func modelLevel(size, fan int) int {
	e, by := 0, big.NewInt(int64(fan))
	for power := by; power.Cmp(big.NewInt(int64(size))) <= 0; power = new(big.Int).Mul(power, by) {
		e++
	}
	return e
}

// modelRipe tells whether a run is ripe, and its level, by unbounded sums.
func modelRipe(sizes []int, fan int) (bool, int) {
	sum := new(big.Int)
	var levels []int
	for _, size := range sizes {
		sum.Add(sum, big.NewInt(int64(max(size, 0))))
		levels = append(levels, modelLevel(size, fan))
	}
	level, count := slices.Max(levels), 0
	for _, e := range levels {
		if e == level {
			count++
		}
	}
	return sum.Cmp(big.NewInt(api.MaxDocs)) <= 0 && 2*count > fan, level
}

// modelPick is what Pick is told to answer: each run is asked anew.
func modelPick(sizes []int, fan int) (int, int) {
	if fan < 2 || len(sizes) < fan {
		return 0, 0
	}
	const unripe = 64
	var levels []int
	for first := 0; first+fan <= len(sizes); first++ {
		ripe, level := modelRipe(sizes[first:first+fan], fan)
		if !ripe {
			level = unripe
		}
		levels = append(levels, level)
	}
	least := slices.Min(levels)
	if least == unripe {
		return 0, 0
	}
	return slices.Index(levels, least), fan
}
