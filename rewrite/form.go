package rewrite

import (
	"slices"
	"strings"

	"concord/api"
)

// form is a query in match form or in score form.
type form struct {
	own                  api.Query // all but the kids; the texts and lists of a leaf are still those that were handed in
	kids                 row       // of a QMax, a QNot and a QConst
	musts, shoulds, nots row       // of a QList
}

// row is forms one behind the other: one of them alone, or rows in their order. It never changes, so a list takes over the row of another one in one step, however long that is.
type row struct {
	one      *form
	rows     []row
	size     int
	wereNots bool // whether all of them have been brought in as a list's nots
}

func alone(x *form) row {
	return row{one: x, size: 1}
}

// joined is rows as one. A row of one form is told as that form, by whichever rows it comes.
func joined(rows []row) row {
	if len(rows) == 1 {
		return rows[0]
	}
	return row{rows: rows, size: sizeOf(rows)}
}

func sizeOf(rows []row) int {
	size := 0
	for _, r := range rows {
		size += r.size
	}
	return size
}

// behind is rows with another one behind them, if there is something in it.
func behind(rows []row, r row) []row {
	if r.size == 0 {
		return rows
	}
	return append(rows, r)
}

// forms is a list with the forms of a row behind it.
func (r row) forms(list []*form) []*form {
	if r.one != nil {
		return append(list, r.one)
	}
	for _, part := range r.rows {
		list = part.forms(list)
	}
	return list
}

// query is a form as a query, in new memory.
func (x *form) query() api.Query {
	out := x.own
	out.Text = strings.Clone(out.Text)
	out.Offs = slices.Clone(out.Offs)
	out.Terms = slices.Clone(out.Terms)
	for i, term := range out.Terms {
		out.Terms[i] = strings.Clone(term)
	}
	out.Kids = x.kids.queries(nil)
	for _, place := range []struct {
		row   row
		occur int
	}{{x.musts, api.Must}, {x.shoulds, api.Should}, {x.nots, api.MustNot}} {
		out.Kids = place.row.queries(out.Kids)
		for range place.row.size {
			out.Occur = append(out.Occur, place.occur)
		}
	}
	return out
}

// queries is a list with the queries of a row behind it.
func (r row) queries(list []api.Query) []api.Query {
	for _, x := range r.forms(nil) {
		list = append(list, x.query())
	}
	return list
}

func none() *form {
	return &form{own: api.Query{Kind: api.QNone}}
}

func all() *form {
	return &form{own: api.Query{Kind: api.QAll}}
}

func has(field int) *form {
	return &form{own: api.Query{Kind: api.QHas, Field: field}}
}

// weighted is a term or a phrase with this weight; a phrase of one term is that term.
func weighted(q *api.Query, weight uint64) *form {
	own := api.Query{Kind: q.Kind, Field: q.Field, Weight: weight}
	switch {
	case q.Kind == api.QTerm:
		own.Text = q.Text
	case len(q.Terms) == 1:
		own.Kind, own.Text = api.QTerm, q.Terms[0]
	default:
		own.Terms, own.Offs, own.N = q.Terms, q.Offs, q.N
	}
	return &form{own: own}
}

func constant(x *form, c uint64) *form {
	return &form{own: api.Query{Kind: api.QConst, Weight: c}, kids: alone(x)}
}

func negation(x *form) *form {
	return &form{own: api.Query{Kind: api.QNot}, kids: alone(x)}
}

// fix matches as x does, which is in match form, each with the score c times One.
func fix(x *form, c uint64) *form {
	switch x.own.Kind {
	case api.QNone:
		return x
	case api.QAll, api.QHas:
		if c == 1 {
			return x
		}
	case api.QTerm, api.QPhrase, api.QNot:
		if c == 0 {
			return x
		}
	}
	return constant(x, c)
}

// not is the match form of what matches where x doesn't, which is in match form.
func not(x *form) *form {
	switch x.own.Kind {
	case api.QNone:
		return all()
	case api.QAll:
		return none()
	case api.QNot:
		return x.kids.one
	}
	return negation(x)
}

// zeroNot is the score form of the same, with the score 0.
func zeroNot(x *form) *form {
	return fix(not(x), 0)
}

// greatest is a QMax of kids in score form.
func greatest(kids []*form) *form {
	var rows []row
	for _, x := range kids {
		switch x.own.Kind {
		case api.QNone:
		case api.QMax:
			rows = append(rows, x.kids)
		default:
			rows = append(rows, alone(x))
		}
	}
	switch r := joined(rows); r.size {
	case 0:
		return none()
	case 1:
		return r.one
	default:
		return &form{own: api.Query{Kind: api.QMax}, kids: r}
	}
}
