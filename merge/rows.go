package merge

import (
	"cmp"
	"slices"
	"sync"

	"concord/api"
	"concord/segment"
)

// noNumber stands in the place of the new local number of a document that is dead.
const noNumber = -1

// Rows are the rows of the parts' live documents, numbered through.
func Rows(parts []*segment.Part) []api.Row {
	return joined(gathered(parts))
}

// gathered is the rows of each part's live documents, numbered through all parts. Each part has a goroutine, that writes into the part's own element.
func gathered(parts []*segment.Part) [][]api.Row {
	lists := make([][]api.Row, len(parts))
	first, turns := firstNumbers(parts), turnsOf(parts)
	var wait sync.WaitGroup
	for i, p := range parts {
		wait.Add(1)
		go func() {
			defer wait.Done()
			turns[i].Lock()
			defer turns[i].Unlock()
			lists[i] = liveRows(p, first[i])
		}()
	}
	wait.Wait()
	return lists
}

// firstNumbers is, for each part, how many live documents the parts ahead of it have.
func firstNumbers(parts []*segment.Part) []int {
	first := make([]int, len(parts))
	next := 0
	for i, p := range parts {
		first[i] = next
		next += p.Live()
	}
	return first
}

// turnsOf is, for each part, the lock of its segment. A part may stand in the list twice, and two parts may share a segment, but no object is promised to bear two goroutines at a time.
func turnsOf(parts []*segment.Part) []*sync.Mutex {
	locks := make(map[*segment.Segment]*sync.Mutex)
	turns := make([]*sync.Mutex, len(parts))
	for i, p := range parts {
		if locks[p.Segment] == nil {
			locks[p.Segment] = new(sync.Mutex)
		}
		turns[i] = locks[p.Segment]
	}
	return turns
}

// liveRows are the rows of a part's live documents, whose new local numbers go from first on.
func liveRows(p *segment.Part, first int) []api.Row {
	numbers := newNumbers(p, first)
	var rows []api.Row
	for _, r := range p.Rows() {
		list := livePosts(r.Posts, numbers)
		if len(list) > 0 {
			rows = append(rows, api.Row{Field: r.Field, Term: r.Term, Posts: list})
		}
	}
	return rows
}

// newNumbers is the new local number of each of a part's documents, by the old one; of the dead it is noNumber.
func newNumbers(p *segment.Part, first int) []int {
	numbers := make([]int, p.Docs())
	for local := range numbers {
		numbers[local] = noNumber
		if p.Alive(local) {
			numbers[local] = first
			first++
		}
	}
	return numbers
}

// livePosts is a new list of the live documents' postings, by new local numbers.
func livePosts(list []api.Posting, numbers []int) []api.Posting {
	var live []api.Posting
	for _, p := range list {
		if numbers[p.Doc] != noNumber {
			live = append(live, api.Posting{Doc: numbers[p.Doc], Pos: p.Pos})
		}
	}
	return live
}

// joined is the rows of all lists, by field and term, with one row a term. The lists stand by rising local numbers: the sort leaves the rows of one term so, and their postings rise one behind the other.
func joined(lists [][]api.Row) []api.Row {
	all := slices.Concat(lists...)
	slices.SortStableFunc(all, compareTerms)
	var rows []api.Row
	for _, r := range all {
		last := len(rows) - 1
		if last >= 0 && compareTerms(rows[last], r) == 0 {
			rows[last].Posts = append(rows[last].Posts, r.Posts...)
		} else {
			rows = append(rows, r)
		}
	}
	return rows
}

// compareTerms holds two rows against each other by field and term.
func compareTerms(a, b api.Row) int {
	return cmp.Or(cmp.Compare(a.Field, b.Field), cmp.Compare(a.Term, b.Term))
}
