package engine_test

import (
	"cmp"
	"math/big"
	"regexp"
	"slices"
	"strings"

	"concord/api"
	"concord/bind"
	"concord/cursor"
	"concord/score"
	"concord/syntax"
	"concord/tokens"
)

// corpus is live documents. What a query means goes by DOC.md's section Meaning over them alone.
type corpus struct {
	schema api.Schema
	docs   []sheet
	avgs   []int
	leaves map[string]map[string]uint64
}

// sheet is a document by its fields: the positions of each term, and the length.
type sheet struct {
	id      int
	columns []column
}

type column struct {
	places map[string][]int
	length int
}

func corpusOf(s api.Schema, docs []api.Doc) corpus {
	c := corpus{schema: s, avgs: make([]int, len(s.Fields)), leaves: map[string]map[string]uint64{}}
	for _, d := range docs {
		x := sheet{id: d.Id}
		for field := range s.Fields {
			col := column{places: map[string][]int{}}
			for _, token := range tokens.Field(s, field, d.Values) {
				col.places[token.Text] = append(col.places[token.Text], token.Pos)
				col.length++
			}
			x.columns = append(x.columns, col)
			c.avgs[field] += col.length
		}
		c.docs = append(c.docs, x)
	}
	for field := range c.avgs {
		c.avgs[field] /= max(len(docs), 1)
	}
	return c
}

func (c corpus) df(field int, text string) int {
	n := 0
	for _, x := range c.docs {
		if len(x.columns[field].places[text]) > 0 {
			n++
		}
	}
	return n
}

func (c corpus) idf(field int, text string) uint64 {
	return score.Idf(len(c.docs), c.df(field, text))
}

func isMany(kind int) bool { return kind >= api.QPrefix && kind <= api.QSpan }

// accepter tells which texts a multi-term leaf means.
func accepter(q api.Query) func(text string) bool {
	switch q.Kind {
	case api.QPrefix:
		return func(text string) bool { return strings.HasPrefix(text, q.Text) }
	case api.QWild:
		form := regexp.MustCompile(patternForm(q.Text))
		return func(text string) bool { return form.MatchString(runes(text)) }
	case api.QFuzzy:
		return func(text string) bool { return edits(q.Text, text) <= q.N }
	}
	return func(text string) bool {
		low := q.Lo.Open || text > q.Lo.Text || q.Lo.In && text == q.Lo.Text
		high := q.Hi.Open || text < q.Hi.Text || q.Hi.In && text == q.Hi.Text
		return low && high
	}
}

// patternForm is a pattern as a regular expression.
func patternForm(pattern string) string {
	out := `\A(?s:`
	for i := 0; i < len(pattern); i++ {
		switch pattern[i] {
		case '*':
			out += ".*"
		case '?':
			out += "."
		case '\\':
			i++
			fallthrough
		default:
			out += regexp.QuoteMeta(runes(pattern[i : i+1]))
		}
	}
	return out + `)\z`
}

// runes is a text with a rune for each byte, for regular expressions go by runes.
func runes(text string) string {
	var out strings.Builder
	for _, c := range []byte(text) {
		out.WriteRune(rune(c))
	}
	return out.String()
}

// edits is the number of edits between two texts, by the table of all their beginnings.
func edits(a, b string) int {
	row := make([]int, len(b)+1)
	for j := range row {
		row[j] = j
	}
	for i := range len(a) {
		next := []int{i + 1}
		for j := range len(b) {
			change := 1
			if a[i] == b[j] {
				change = 0
			}
			next = append(next, min(row[j]+change, row[j+1]+1, next[j]+1))
		}
		row = next
	}
	return row[len(b)]
}

// terms are the terms of a multi-term leaf, each with how often its score counts.
func (c corpus) terms(q api.Query) map[string]uint64 {
	key := bind.Text(q)
	if found, ok := c.leaves[key]; ok {
		return found
	}
	found, accepts := map[string]uint64{}, accepter(q)
	for _, x := range c.docs {
		for text := range x.columns[q.Field].places {
			if _, ok := found[text]; !ok && accepts(text) {
				found[text] = 1
				if q.Kind == api.QFuzzy {
					found[text] = uint64(q.N + 1 - edits(q.Text, text))
				}
			}
		}
	}
	c.leaves[key] = found
	return found
}

// count is the count of a query.
func (c corpus) count(q api.Query) int {
	switch {
	case q.Kind == api.QTerm:
		return 1
	case q.Kind == api.QPhrase:
		return len(q.Terms)
	case isMany(q.Kind):
		return len(c.terms(q))
	}
	n := 0
	for _, kid := range q.Kids {
		n += c.count(kid)
	}
	return n
}

func number(x uint64) *big.Int { return new(big.Int).SetUint64(x) }

// product is a product of numbers of any size.
func product(a *big.Int, more ...uint64) *big.Int {
	for _, x := range more {
		a = new(big.Int).Mul(a, number(x))
	}
	return a
}

// bound is the bound of a query, as a number of any size: where it is Top or more in the document, it is so here.
func (c corpus) bound(q api.Query) *big.Int {
	out := big.NewInt(0)
	switch {
	case q.Kind == api.QAll || q.Kind == api.QHas:
		return number(api.One)
	case q.Kind == api.QConst:
		return product(number(q.Weight), api.One)
	case q.Kind == api.QBoost:
		return product(c.bound(q.Kids[0]), q.Weight)
	case q.Kind == api.QMax:
		for _, kid := range q.Kids {
			if b := c.bound(kid); b.Cmp(out) > 0 {
				out = b
			}
		}
	case q.Kind == api.QList:
		for i, kid := range q.Kids {
			if q.Occur[i] != api.MustNot {
				out = new(big.Int).Add(out, c.bound(kid))
			}
		}
	case q.Kind == api.QTerm && c.df(q.Field, q.Text) > 0:
		return product(number(c.idf(q.Field, q.Text)), 1024)
	case q.Kind == api.QPhrase:
		for _, text := range q.Terms {
			if c.df(q.Field, text) == 0 {
				return big.NewInt(0)
			}
			out = new(big.Int).Add(out, product(number(c.idf(q.Field, text)), 1024))
		}
	case isMany(q.Kind):
		for text, u := range c.terms(q) {
			out = new(big.Int).Add(out, product(number(u), c.idf(q.Field, text), 1024))
		}
	}
	return out
}

// match is whether a document matches, and with which score.
type match struct {
	hit   bool
	score uint64
}

func matchIf(hit bool, score uint64) match {
	if !hit {
		return match{}
	}
	return match{true, score}
}

// meaning is what a bound query comes to for a document.
func (c corpus) meaning(q api.Query, x sheet) match {
	switch q.Kind {
	case api.QAll:
		return match{true, api.One}
	case api.QHas:
		return matchIf(x.columns[q.Field].length >= 1, api.One)
	case api.QTerm:
		return c.termMeaning(q.Field, q.Text, x)
	case api.QPhrase:
		return c.phraseMeaning(q, x)
	case api.QPrefix, api.QWild, api.QFuzzy, api.QSpan:
		var out match
		for text, u := range c.terms(q) {
			if m := c.termMeaning(q.Field, text, x); m.hit {
				out = match{true, out.score + u*m.score}
			}
		}
		return out
	case api.QList:
		return c.listMeaning(q, x)
	case api.QMax:
		var out match
		for _, kid := range q.Kids {
			m := c.meaning(kid, x)
			out = match{out.hit || m.hit, max(out.score, m.score)}
		}
		return out
	case api.QNot:
		return match{hit: !c.meaning(q.Kids[0], x).hit}
	case api.QBoost:
		m := c.meaning(q.Kids[0], x)
		return matchIf(m.hit, q.Weight*m.score)
	case api.QConst:
		return matchIf(c.meaning(q.Kids[0], x).hit, q.Weight*api.One)
	}
	return match{}
}

func (c corpus) termMeaning(field int, text string, x sheet) match {
	freq := len(x.columns[field].places[text])
	if freq == 0 {
		return match{}
	}
	return match{true, c.idf(field, text) * score.Sat(freq, x.columns[field].length, c.avgs[field])}
}

func (c corpus) phraseMeaning(q api.Query, x sheet) match {
	var lists [][]int
	weight := uint64(0)
	for _, text := range q.Terms {
		lists = append(lists, x.columns[q.Field].places[text])
		weight += c.idf(q.Field, text)
	}
	freq := cursor.PhraseFreq(lists, q.Offs, q.N)
	return matchIf(freq >= 1, weight*score.Sat(freq, x.columns[q.Field].length, c.avgs[q.Field]))
}

func (c corpus) listMeaning(q api.Query, x sheet) match {
	met, sum, need := 0, uint64(0), q.N
	if need == 0 && !slices.Contains(q.Occur, api.Must) {
		need = 1
	}
	for i, kid := range q.Kids {
		m := c.meaning(kid, x)
		switch {
		case q.Occur[i] == api.MustNot && m.hit, q.Occur[i] == api.Must && !m.hit:
			return match{}
		case q.Occur[i] == api.Should && m.hit:
			met++
		}
		if q.Occur[i] != api.MustNot {
			sum += m.score
		}
	}
	return matchIf(met >= need, sum)
}

// bound query of a text, or ErrSyntax, or ErrDeep.
func bound(s api.Schema, text string) (api.Query, error) {
	nest, _, err := syntax.Check(text)
	if err != nil {
		return api.Query{}, api.ErrSyntax
	}
	if nest > api.MaxNest {
		return api.Query{}, api.ErrDeep
	}
	tree, _, err := syntax.Parse(text)
	if err != nil {
		return api.Query{}, err
	}
	return bind.Bind(s, tree)
}

// outcome is that of a query text for a k beyond all: all hits, the best first, or the error.
func (c corpus) outcome(text string) ([]api.Hit, error) {
	q, err := bound(c.schema, text)
	if err != nil {
		return nil, err
	}
	if c.count(q) > api.MaxTerms {
		return nil, api.ErrTerms
	}
	if c.bound(q).Cmp(number(api.Top)) >= 0 {
		return nil, api.ErrScore
	}
	var hits []api.Hit
	for _, x := range c.docs {
		if m := c.meaning(q, x); m.hit {
			hits = append(hits, api.Hit{Id: x.id, Score: m.score})
		}
	}
	slices.SortFunc(hits, func(a, b api.Hit) int { return cmp.Or(cmp.Compare(b.Score, a.Score), cmp.Compare(a.Id, b.Id)) })
	return hits, nil
}

// firstOf are the first k hits of a list.
func firstOf(hits []api.Hit, k int) []api.Hit {
	return hits[:min(max(k, 0), len(hits))]
}

// behind are the hits of a list in the outcome's order that stand behind h.
func behind(hits []api.Hit, h api.Hit) []api.Hit {
	var out []api.Hit
	for _, x := range hits {
		if x.Score < h.Score || x.Score == h.Score && x.Id > h.Id {
			out = append(out, x)
		}
	}
	return out
}
