package cursor_test

import (
	"fmt"
	"math"
	"math/rand"
	"slices"
	"testing"

	"concord/api"
	"concord/cursor"
	"concord/posts"
)

// spaced has n documents, the first at from, each so far from the one ahead of it, with one to four positions in turn.
func spaced(n, from, step int) []api.Posting {
	var list []api.Posting
	for i := range n {
		p := api.Posting{Doc: from + step*i}
		for k := range 1 + i%4 {
			p.Pos = append(p.Pos, i+(k+i)*k)
		}
		list = append(list, p)
	}
	return list
}

// onePosition has the documents, each with the one position x.
func onePosition(x int, docs ...int) []api.Posting {
	var list []api.Posting
	for _, doc := range docs {
		list = append(list, api.Posting{Doc: doc, Pos: []int{x}})
	}
	return list
}

// tens are the chapter's postings: n documents 0, 10, 20, .. with one position each.
func tens(n int) []api.Posting {
	var docs []int
	for i := range n {
		docs = append(docs, 10*i)
	}
	return onePosition(3, docs...)
}

// madePosts has n documents with gaps and numbers of positions by the dice.
func madePosts(dice *rand.Rand, n int) []api.Posting {
	var list []api.Posting
	doc := -1
	for range n {
		doc += 1 + dice.Intn(1<<dice.Intn(6))
		p := api.Posting{Doc: doc}
		pos := -1
		for range 1 + dice.Intn(1<<dice.Intn(5)) {
			pos += 1 + dice.Intn(20)
			p.Pos = append(p.Pos, pos)
		}
		list = append(list, p)
	}
	return list
}

// sizes are numbers of documents around the ends of blocks.
func sizes() []int {
	return []int{0, 1, 2, 14, 15, 16, 17, 18, 31, 32, 33, 34, 47, 48, 49, 64, 65}
}

// named are postings of many kinds, by what they are.
func named() map[string][]api.Posting {
	var greatest []int
	for i := range 33 {
		greatest = append(greatest, 2147483646-32+i)
	}
	lists := map[string][]api.Posting{
		"greatest document":   onePosition(0, 2147483646),
		"first and greatest":  onePosition(1, 0, 2147483646),
		"last documents":      onePosition(7, greatest...),
		"last full blocks":    onePosition(7, greatest[1:]...),
		"last full block":     onePosition(7, greatest[17:]...),
		"greatest position":   {{Doc: 4, Pos: []int{0, math.MaxInt - 1, math.MaxInt}}, {Doc: 5, Pos: []int{math.MaxInt}}},
		"a block, a far one":  append(spaced(16, 0, 1), onePosition(9, 2147483646)...),
		"a far one, a block":  append(onePosition(9, 0), spaced(16, 1000000, 1)...),
		"blocks far apart":    slices.Concat(spaced(16, 0, 1), spaced(16, 5000, 3), spaced(5, 2000000000, 1)),
		"many positions":      {{Doc: 1, Pos: rangeOf(500)}, {Doc: 2, Pos: []int{0}}, {Doc: 9, Pos: rangeOf(3)}},
		"many positions late": append(spaced(20, 3, 2), api.Posting{Doc: 50, Pos: rangeOf(300)}),
	}
	for _, n := range sizes() {
		lists[fmt.Sprint("dense ", n)] = spaced(n, 0, 1)
		lists[fmt.Sprint("spaced ", n)] = spaced(n, 2, 3)
		lists[fmt.Sprint("tens ", n)] = tens(n)
	}
	dice := rand.New(rand.NewSource(9))
	for _, n := range []int{3, 16, 17, 40, 100} {
		lists[fmt.Sprint("made ", n)] = madePosts(dice, n)
	}
	return lists
}

// rangeOf are the numbers 0 .. n - 1.
func rangeOf(n int) []int {
	var list []int
	for i := range n {
		list = append(list, i)
	}
	return list
}

func totalOf(list []api.Posting) int {
	t := 0
	for _, p := range list {
		t += len(p.Pos)
	}
	return t
}

// targetsOf are targets below 0, at, next to and between the documents, past them, and at the ends of Go's numbers.
func targetsOf(list []api.Posting) []int {
	targets := []int{math.MinInt, -2147483648, -2, -1, 0, 1, 2147483645, 2147483646, api.EndDoc, api.EndDoc + 1, 1 << 32, math.MaxInt}
	for i, p := range list {
		targets = append(targets, p.Doc-1, p.Doc, p.Doc+1)
		if i > 0 {
			targets = append(targets, list[i-1].Doc+(p.Doc-list[i-1].Doc+1)/2)
		}
	}
	slices.Sort(targets)
	return slices.Compact(targets)
}

func mustEncode(t testing.TB, list []api.Posting) []byte {
	t.Helper()
	b, err := posts.Encode(list)
	if err != nil {
		t.Fatalf("Encode of %v: %v", list, err)
	}
	return b
}

func mustOpen(t testing.TB, b []byte) *cursor.Cursor {
	t.Helper()
	c, err := cursor.Open(b)
	if err != nil || c == nil {
		t.Fatalf("Open of % x: %v", b, err)
	}
	return c
}

func cursorOver(t testing.TB, list []api.Posting) *cursor.Cursor {
	t.Helper()
	return mustOpen(t, mustEncode(t, list))
}

// wipe writes over all that a list holds, spare room included.
func wipe[T byte | int](list []T) {
	list = list[:cap(list)]
	for i := range list {
		list[i] ^= 0x55
	}
}
