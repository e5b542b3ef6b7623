package bind

import (
	"strings"

	"concord/api"
	"concord/schema"
	"concord/tokens"
)

// binder binds the nodes of good trees to a good schema.
type binder struct {
	schema api.Schema
	rules  [api.NConst + 1]rule
}

// rule binds the nodes of a kind; false, if the node vanishes.
type rule func(b *binder, n api.Node) (api.Query, bool)

// leafRule is a rule of leaves, whose field has been found: its number and itself.
type leafRule func(number int, f api.Field, n api.Node) (api.Query, bool)

// rules are the rules of all kinds.
func rules() [api.NConst + 1]rule {
	return [...]rule{
		api.NTerm:   inField(words),
		api.NPhrase: inField(words),
		api.NPrefix: inField(manyTerms(api.QPrefix)),
		api.NWild:   inField(manyTerms(api.QWild)),
		api.NFuzzy:  inField(manyTerms(api.QFuzzy)),
		api.NSpan:   inField(span),
		api.NHas:    inField(has),
		api.NAll:    all,
		api.NList:   list,
		api.NAnd:    list,
		api.NOr:     list,
		api.NMax:    over(api.QMax),
		api.NNot:    over(api.QNot),
		api.NBoost:  over(api.QBoost),
		api.NConst:  over(api.QConst),
	}
}

func (b *binder) bind(n api.Node) (api.Query, bool) {
	return b.rules[n.Kind](b, n)
}

// find is the number of a leaf's field.
func (b *binder) find(name string) (int, bool) {
	if name == "" {
		return 0, true
	}
	return schema.Find(b.schema, name)
}

func none() api.Query {
	return api.Query{Kind: api.QNone}
}

func all(_ *binder, _ api.Node) (api.Query, bool) {
	return api.Query{Kind: api.QAll}, true
}

// inField is the rule of leaves that find their field first.
func inField(leaf leafRule) rule {
	return func(b *binder, n api.Node) (api.Query, bool) {
		number, ok := b.find(n.Field)
		if !ok {
			return none(), true
		}
		return leaf(number, b.schema.Fields[number], n)
	}
}

// words is the rule of NTerm and NPhrase. What has no token vanishes in a text field alone: elsewhere it is a text that no document can have.
func words(number int, f api.Field, n api.Node) (api.Query, bool) {
	found := tokens.Of(f, n.Text)
	switch {
	case f.Kind != api.KindText && (len(found) == 0 || n.Text == ""):
		return none(), true
	case len(found) == 0:
		return api.Query{}, false
	case len(found) == 1:
		return api.Query{Kind: api.QTerm, Field: number, Text: found[0].Text}, true
	}
	q := api.Query{Kind: api.QPhrase, Field: number, N: n.N}
	for _, t := range found {
		q.Terms = append(q.Terms, t.Text)
		q.Offs = append(q.Offs, t.Pos-found[0].Pos)
	}
	return q, true
}

// manyTerms is the rule of leaves whose text means many terms. They say nothing about numbers, whose terms aren't their digits.
func manyTerms(kind int) leafRule {
	return func(number int, f api.Field, n api.Node) (api.Query, bool) {
		if f.Kind == api.KindNumber {
			return none(), true
		}
		return api.Query{Kind: kind, Field: number, Text: folded(f, n.Text), N: n.N}, true
	}
}

// folded is a text of a leaf as the field folds it, in new memory. The pattern of a good tree is canonical: its escapes, stars and gaps are neither folded nor made by folding, and part just the letters that they should, so it may be folded whole.
func folded(f api.Field, text string) string {
	if f.Fold {
		return tokens.Fold(text)
	}
	return strings.Clone(text)
}

func span(number int, f api.Field, n api.Node) (api.Query, bool) {
	lo, loFits := end(f, n.Lo)
	hi, hiFits := end(f, n.Hi)
	if !loFits || !hiFits {
		return none(), true
	}
	return api.Query{Kind: api.QSpan, Field: number, Lo: lo, Hi: hi}, true
}

// end is an end of a span in terms of the field; false, if it is none there.
func end(f api.Field, x api.Bound) (api.Bound, bool) {
	if x.Open {
		return x, true
	}
	if f.Kind != api.KindNumber {
		x.Text = folded(f, x.Text)
		return x, true
	}
	v, ok := schema.ParseNumber(x.Text)
	x.Text = schema.NumberTerm(v)
	return x, ok
}

func has(number int, _ api.Field, _ api.Node) (api.Query, bool) {
	return api.Query{Kind: api.QHas, Field: number}, true
}

// list is the rule of NList, NAnd and NOr.
func list(b *binder, n api.Node) (api.Query, bool) {
	q := api.Query{Kind: api.QList, N: n.N}
	for i, kid := range n.Kids {
		if bound, ok := b.bind(kid); ok {
			q.Kids = append(q.Kids, bound)
			q.Occur = append(q.Occur, occurOf(n, i))
		}
	}
	return q, len(q.Kids) > 0
}

// occurOf is how the kid of this number occurs.
func occurOf(n api.Node, kid int) int {
	switch n.Kind {
	case api.NAnd:
		return api.Must
	case api.NOr:
		return api.Should
	}
	return n.Occur[kid]
}

// over is the rule of the other nodes with kids. Those that have no number have N 0, which is their Weight.
func over(kind int) rule {
	return func(b *binder, n api.Node) (api.Query, bool) {
		q := api.Query{Kind: kind, Weight: uint64(n.N)}
		for _, kid := range n.Kids {
			if bound, ok := b.bind(kid); ok {
				q.Kids = append(q.Kids, bound)
			}
		}
		return q, len(q.Kids) > 0
	}
}
