package expand

import (
	"cmp"

	"concord/auto"
	"concord/score"
	"concord/segment"
)

// tally is a thing and how often it was met.
type tally[T cmp.Ordered] struct {
	thing T
	count int
}

// termLists is, for each part, its terms that an automaton accepts.
func termLists(parts []*segment.Part, field int, a *auto.Auto) [][]tally[string] {
	var lists [][]tally[string]
	for _, p := range parts {
		lists = append(lists, liveTerms(p, field, a))
	}
	return lists
}

// liveTerms are the terms of a field that a part has and an automaton accepts, rising, each with the number of its live documents there.
func liveTerms(p *segment.Part, field int, a *auto.Auto) []tally[string] {
	head := segment.Key(field, "")
	alone := []*segment.Part{p}
	var list []tally[string]
	for _, e := range a.Terms(p.Dict(), head) {
		term := e.Key[len(head):]
		// A key has room for the field's lowest byte alone, so these may be the keys of another field; Df is 0 then, as it is where all are dead.
		if df := score.Df(alone, field, term); df > 0 {
			list = append(list, tally[string]{term, df})
		}
	}
	return list
}

// joinedAll is what rising lists have together. It joins halves, so that a thing goes through few joins however many lists there are.
func joinedAll[T cmp.Ordered](lists [][]tally[T]) []tally[T] {
	switch n := len(lists); n {
	case 0:
		return nil
	case 1:
		return lists[0]
	default:
		return joined(joinedAll(lists[:n/2]), joinedAll(lists[n/2:]))
	}
}

// joined is what two rising lists have together, rising: of what both have, the counts are summed.
func joined[T cmp.Ordered](a, b []tally[T]) []tally[T] {
	list := make([]tally[T], 0, len(a)+len(b))
	for len(a) > 0 && len(b) > 0 {
		switch order := cmp.Compare(a[0].thing, b[0].thing); {
		case order < 0:
			list, a = append(list, a[0]), a[1:]
		case order > 0:
			list, b = append(list, b[0]), b[1:]
		default:
			list = append(list, tally[T]{a[0].thing, a[0].count + b[0].count})
			a, b = a[1:], b[1:]
		}
	}
	return append(append(list, a...), b...)
}
