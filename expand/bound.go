package expand

import (
	"concord/api"
	"concord/score"
)

// topSat is above what a frequency can count, however great it is.
const topSat = 1024

// boundOf is the bound of a good, plain query.
func boundOf(q api.Query) uint64 {
	switch q.Kind {
	case api.QAll, api.QHas:
		return api.One
	case api.QTerm, api.QPhrase:
		return score.Mul(q.Weight, topSat)
	case api.QList:
		return listBound(q)
	case api.QMax:
		return maxBound(q)
	case api.QBoost:
		return score.Mul(q.Weight, boundOf(q.Kids[0]))
	case api.QConst:
		return score.Mul(q.Weight, api.One)
	}
	// QNone never matches, and QNot scores nothing where it does.
	return 0
}

// listBound sums up what counts in a list: all but the must-nots.
func listBound(q api.Query) uint64 {
	sum := uint64(0)
	for i, kid := range q.Kids {
		if q.Occur[i] != api.MustNot {
			sum = score.Add(sum, boundOf(kid))
		}
	}
	return sum
}

func maxBound(q api.Query) uint64 {
	greatest := uint64(0)
	for _, kid := range q.Kids {
		greatest = max(greatest, boundOf(kid))
	}
	return greatest
}
