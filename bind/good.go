package bind

import (
	"concord/api"
	"concord/auto"
)

const (
	// lastOff is the greatest offset of a phrase's term.
	lastOff = api.EndDoc - 1
	// mostEdits is the greatest number of edits of a QFuzzy.
	mostEdits = 2
)

// owned says what the queries of a kind have; all else of them is empty.
type owned struct {
	field, text, terms, n, weight, ends, occur, kids bool
}

// owns says what all kinds have.
var owns = [...]owned{
	api.QNone:   {},
	api.QAll:    {},
	api.QHas:    {field: true},
	api.QTerm:   {field: true, text: true, weight: true},
	api.QPhrase: {field: true, terms: true, n: true, weight: true},
	api.QPrefix: {field: true, text: true},
	api.QWild:   {field: true, text: true},
	api.QFuzzy:  {field: true, text: true, n: true},
	api.QSpan:   {field: true, ends: true},
	api.QList:   {kids: true, occur: true, n: true},
	api.QMax:    {kids: true},
	api.QNot:    {kids: true},
	api.QBoost:  {kids: true, weight: true},
	api.QConst:  {kids: true, weight: true},
}

// isGood tells whether a query is good over so many fields and, if that is asked, plain.
func isGood(q api.Query, count int, plain bool) bool {
	if q.Kind < api.QNone || q.Kind > api.QConst || plain && isMultiTerm(q.Kind) {
		return false
	}
	if !owns[q.Kind].takesField(q.Field, count) || !owns[q.Kind].isAll(q) || !meetsAsk(q) {
		return false
	}
	for _, kid := range q.Kids {
		if !isGood(kid, count, plain) {
			return false
		}
	}
	return true
}

// isMultiTerm tells whether a kind is that of leaves that mean many terms.
func isMultiTerm(kind int) bool {
	switch kind {
	case api.QPrefix, api.QWild, api.QFuzzy, api.QSpan:
		return true
	}
	return false
}

func (x owned) takesField(field, count int) bool {
	if !x.field {
		return field == 0
	}
	return 0 <= field && field < count
}

// isAll tells whether nothing of a query beside its Field is set but what it owns.
func (x owned) isAll(q api.Query) bool {
	switch {
	case !x.text && q.Text != "",
		!x.terms && len(q.Terms)+len(q.Offs) > 0,
		!x.n && q.N != 0,
		!x.weight && q.Weight != 0,
		!x.ends && (q.Lo != api.Bound{} || q.Hi != api.Bound{}),
		!x.occur && len(q.Occur) > 0,
		!x.kids && len(q.Kids) > 0:
		return false
	}
	return true
}

// meetsAsk tells whether a query has what is asked of its kind beside its Field, whatever its kids are.
func meetsAsk(q api.Query) bool {
	switch q.Kind {
	case api.QPhrase:
		return isOneEach(len(q.Terms), q.Offs, lastOff) && isUpTo(q.N, api.MaxNumber)
	case api.QWild:
		return auto.Good(q.Text)
	case api.QFuzzy:
		return isUpTo(q.N, mostEdits)
	case api.QSpan:
		return isGoodEnd(q.Lo) && isGoodEnd(q.Hi)
	case api.QList:
		return isOneEach(len(q.Kids), q.Occur, api.MustNot) && isUpTo(q.N, api.MaxNumber)
	case api.QMax:
		return len(q.Kids) > 0
	case api.QNot, api.QBoost, api.QConst:
		return len(q.Kids) == 1
	}
	return true
}

// isOneEach tells whether there is one thing at least, and of the numbers just one for each, from 0 to the most.
func isOneEach(things int, numbers []int, most int) bool {
	for _, n := range numbers {
		if !isUpTo(n, most) {
			return false
		}
	}
	return things > 0 && len(numbers) == things
}

func isUpTo(n, most int) bool {
	return 0 <= n && n <= most
}

func isGoodEnd(x api.Bound) bool {
	return !x.Open || x == api.Bound{Open: true}
}
