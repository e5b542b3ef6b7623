package compile

import (
	"concord/api"
	"concord/bind"
)

// isGood tells whether a plan is good over so many fields.
func isGood(pl api.Plan, fields int) bool {
	// A query without fields is good over none of them, but no program is.
	if fields < 1 || fields > api.MaxFields || pl.All && len(pl.Drive) > 0 {
		return false
	}
	if bind.Check(pl.Root, fields, true) != nil || !keepsMaxTerm(&pl.Root) {
		return false
	}
	for _, leaf := range pl.Drive {
		if leaf.Field < 0 || leaf.Field >= fields || len(leaf.Term) > api.MaxTerm {
			return false
		}
	}
	return true
}

// keepsMaxTerm tells whether no term in a query is too long for a cursor.
func keepsMaxTerm(q *api.Query) bool {
	if len(q.Text) > api.MaxTerm {
		return false
	}
	for _, term := range q.Terms {
		if len(term) > api.MaxTerm {
			return false
		}
	}
	for i := range q.Kids {
		if !keepsMaxTerm(&q.Kids[i]) {
			return false
		}
	}
	return true
}
