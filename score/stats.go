package score

import (
	"concord/api"
	"concord/segment"
)

// Gather is the statistics of the parts' live documents.
func Gather(s api.Schema, parts []*segment.Part) api.Stats {
	st := api.Stats{Sums: make([]int, len(s.Fields))}
	for _, p := range parts {
		st.Docs += p.Live()
		for field := range st.Sums {
			st.Sums[field] += liveLengths(p, field)
		}
	}
	return st
}

// liveLengths is the sum of a field's lengths over a part's live documents.
func liveLengths(p *segment.Part, field int) int {
	sum := 0
	for local, ok := p.NextAlive(0); ok; local, ok = p.NextAlive(local + 1) {
		sum += p.Length(field, local)
	}
	return sum
}

// Avg is a field's average length.
func Avg(st api.Stats, field int) int {
	if st.Docs < 1 || field < 0 || field >= len(st.Sums) {
		return 0
	}
	return max(0, st.Sums[field]) / st.Docs
}

// Df is the number of the parts' live documents that have a term.
func Df(parts []*segment.Part, field int, term string) int {
	df := 0
	for _, p := range parts {
		df += liveDocs(p, field, term)
	}
	return df
}

// liveDocs is the number of a part's live documents that have a term.
func liveDocs(p *segment.Part, field int, term string) int {
	// The dictionary counts the dead as well: the postings tell who has the term.
	c := p.Cursor(field, term)
	n := 0
	for local := c.Next(); local != api.EndDoc; local = c.Next() {
		if p.Alive(local) {
			n++
		}
	}
	return n
}
