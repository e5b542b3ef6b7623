package expand_test

import (
	"fmt"
	"math/big"
	"reflect"
	"regexp"
	"slices"
	"strings"

	"concord/api"
	"concord/auto"
	"concord/cursor"
	"concord/score"
	"concord/tokens"
)

// corpus is live documents, by their fields: the positions of each term, and the length.
type corpus struct {
	docs [][]column
}

type column struct {
	places map[string][]int
	length int
}

// corpusOf is the live documents of parts, each over its part's schema.
func corpusOf(list []made) corpus {
	var c corpus
	for _, m := range list {
		for _, d := range m.live() {
			var columns []column
			for i := range m.schema.Fields {
				col := column{places: map[string][]int{}}
				for _, t := range tokens.Field(m.schema, i, d.Values) {
					col.places[t.Text] = append(col.places[t.Text], t.Pos)
					col.length++
				}
				columns = append(columns, col)
			}
			c.docs = append(c.docs, columns)
		}
	}
	return c
}

// column is a document's field; an empty one, if its schema doesn't have it.
func (c corpus) column(doc, field int) column {
	if field < 0 || field >= len(c.docs[doc]) {
		return column{}
	}
	return c.docs[doc][field]
}

func (c corpus) df(field int, text string) int {
	n := 0
	for i := range c.docs {
		if len(c.column(i, field).places[text]) > 0 {
			n++
		}
	}
	return n
}

func (c corpus) idf(field int, text string) uint64 {
	return score.Idf(len(c.docs), c.df(field, text))
}

func (c corpus) sat(field, doc, freq int) uint64 {
	sum := 0
	for i := range c.docs {
		sum += c.column(i, field).length
	}
	return score.Sat(freq, c.column(doc, field).length, sum/max(len(c.docs), 1))
}

// found is a term and how many documents have it.
type found struct {
	term string
	df   int
}

func (x found) String() string {
	return fmt.Sprintf("%q (%d)", x.term, x.df)
}

// terms are the terms of a field that are accepted, rising.
func (c corpus) terms(field int, accepts func(text string) bool) []found {
	counts := map[string]int{}
	for i := range c.docs {
		for text := range c.column(i, field).places {
			if accepts(text) {
				counts[text]++
			}
		}
	}
	var out []found
	for text, n := range counts {
		out = append(out, found{text, n})
	}
	slices.SortFunc(out, func(a, b found) int { return strings.Compare(a.term, b.term) })
	return out
}

// accepter tells which texts a multi-term leaf means, or a QTerm: its own.
func accepter(q api.Query) func(text string) bool {
	switch q.Kind {
	case api.QTerm:
		return func(text string) bool { return text == q.Text }
	case api.QPrefix:
		return func(text string) bool { return strings.HasPrefix(text, q.Text) }
	case api.QWild:
		form := regexp.MustCompile(patternForm(q.Text))
		return func(text string) bool { return form.MatchString(runes(text)) }
	case api.QFuzzy:
		return func(text string) bool { return modelEdits(q.Text, text) <= q.N }
	}
	return func(text string) bool {
		low := q.Lo.Open || text > q.Lo.Text || q.Lo.In && text == q.Lo.Text
		high := q.Hi.Open || text < q.Hi.Text || q.Hi.In && text == q.Hi.Text
		return low && high
	}
}

// patternForm is a pattern as a regular expression.
func patternForm(pattern string) string {
	out := `\A(?s:`
	for i := 0; i < len(pattern); i++ {
		switch pattern[i] {
		case '*':
			out += ".*"
		case '?':
			out += "."
		case '\\':
			i++
			fallthrough
		default:
			out += regexp.QuoteMeta(runes(pattern[i : i+1]))
		}
	}
	return out + `)\z`
}

// runes is a text with a rune for each byte, for regular expressions go by runes.
func runes(text string) string {
	var out strings.Builder
	for _, c := range []byte(text) {
		out.WriteRune(rune(c))
	}
	return out.String()
}

// modelEdits is the number of edits between two texts, by the table of all their beginnings.
func modelEdits(a, b string) int {
	row := run(0, len(b)+1)
	for i := range len(a) {
		next := []int{i + 1}
		for j := range len(b) {
			change := 1
			if a[i] == b[j] {
				change = 0
			}
			next = append(next, min(row[j]+change, row[j+1]+1, next[j]+1))
		}
		row = next
	}
	return row[len(b)]
}

// automatonOf is the automaton of a multi-term leaf, by the chapter; of a QTerm the one that accepts its text alone.
func automatonOf(q api.Query) *auto.Auto {
	var a *auto.Auto
	switch q.Kind {
	case api.QTerm:
		a = auto.Exact(q.Text)
	case api.QPrefix:
		a = auto.Prefix(q.Text)
	case api.QWild:
		a, _ = auto.Wild(q.Text)
	case api.QFuzzy:
		a, _ = auto.Fuzzy(q.Text, q.N)
	case api.QSpan:
		a = auto.Span(q.Lo, q.Hi)
	}
	return a
}

func isMany(kind int) bool {
	return kind >= api.QPrefix && kind <= api.QSpan
}

// count is the count of a query, by DOC.md's section Meaning.
func (c corpus) count(q api.Query) int {
	switch {
	case q.Kind == api.QTerm:
		return 1
	case q.Kind == api.QPhrase:
		return len(q.Terms)
	case isMany(q.Kind):
		return len(c.terms(q.Field, accepter(q)))
	}
	n := 0
	for _, kid := range q.Kids {
		n += c.count(kid)
	}
	return n
}

// u is how often a term's score counts in that of a multi-term leaf.
func u(q api.Query, text string) uint64 {
	if q.Kind != api.QFuzzy {
		return 1
	}
	return uint64(q.N + 1 - modelEdits(q.Text, text))
}

// expanded is a query expanded, by the chapter.
func (c corpus) expanded(q api.Query) api.Query {
	switch {
	case q.Kind == api.QTerm && c.df(q.Field, q.Text) == 0:
		return none
	case q.Kind == api.QTerm:
		return term(q.Field, q.Text, c.idf(q.Field, q.Text))
	case q.Kind == api.QPhrase:
		out := q
		out.Weight = 0
		for _, text := range q.Terms {
			if c.df(q.Field, text) == 0 {
				return none
			}
			out.Weight += c.idf(q.Field, text)
		}
		return out
	case isMany(q.Kind):
		var kids []api.Query
		for _, x := range c.terms(q.Field, accepter(q)) {
			kid := term(q.Field, x.term, score.Idf(len(c.docs), x.df))
			if n := u(q, x.term); n > 1 {
				kid = boost(n, kid)
			}
			kids = append(kids, kid)
		}
		if len(kids) == 0 {
			return none
		}
		return list(0, strings.Repeat(" ", len(kids)), kids...)
	}
	out := q
	out.Kids = nil
	for _, kid := range q.Kids {
		out.Kids = append(out.Kids, c.expanded(kid))
	}
	return out
}

// top is Top, as a number of any size.
var top = new(big.Int).Lsh(big.NewInt(1), 63)

func number(x uint64) *big.Int {
	return new(big.Int).SetUint64(x)
}

// capped is a number of any size, Top where it is above that.
func capped(x *big.Int) *big.Int {
	if x.Cmp(top) > 0 {
		return top
	}
	return x
}

func product(a, b *big.Int) *big.Int { return capped(new(big.Int).Mul(a, b)) }
func sum(a, b *big.Int) *big.Int     { return capped(new(big.Int).Add(a, b)) }

// bound is the bound of a query, by DOC.md's section Meaning: of an expanded one by its Weights, of any other by the rarities of the documents.
func (c corpus) bound(q api.Query, byWeight bool) *big.Int {
	out := big.NewInt(0)
	switch {
	case q.Kind == api.QAll || q.Kind == api.QHas:
		return number(api.One)
	case q.Kind == api.QConst:
		return product(number(q.Weight), number(api.One))
	case q.Kind == api.QBoost:
		return product(number(q.Weight), c.bound(q.Kids[0], byWeight))
	case q.Kind == api.QMax:
		for _, kid := range q.Kids {
			if b := c.bound(kid, byWeight); b.Cmp(out) > 0 {
				out = b
			}
		}
	case q.Kind == api.QList:
		for i, kid := range q.Kids {
			if q.Occur[i] != api.MustNot {
				out = sum(out, c.bound(kid, byWeight))
			}
		}
	case byWeight && (q.Kind == api.QTerm || q.Kind == api.QPhrase):
		return product(number(q.Weight), big.NewInt(1024))
	case q.Kind == api.QTerm:
		return product(number(c.idf(q.Field, q.Text)), big.NewInt(1024))
	case q.Kind == api.QPhrase:
		for _, text := range q.Terms {
			if c.df(q.Field, text) == 0 {
				return big.NewInt(0)
			}
			out = sum(out, product(number(c.idf(q.Field, text)), big.NewInt(1024)))
		}
	case isMany(q.Kind):
		for _, x := range c.terms(q.Field, accepter(q)) {
			out = sum(out, number(u(q, x.term)*score.Idf(len(c.docs), x.df)*1024))
		}
	}
	return out
}

// match is whether a document matches, and with which score.
type match struct {
	hit   bool
	score uint64
}

func hitOf(hit bool, score uint64) match {
	if !hit {
		return match{}
	}
	return match{true, score}
}

// meaning is what a query comes to for a document, by DOC.md's section Meaning: an expanded one by its Weights, any other by the rarities of the documents.
func (c corpus) meaning(q api.Query, doc int, byWeight bool) match {
	switch {
	case q.Kind == api.QAll:
		return match{true, api.One}
	case q.Kind == api.QHas:
		return hitOf(c.column(doc, q.Field).length >= 1, api.One)
	case q.Kind == api.QTerm:
		return c.termMeaning(q, doc, byWeight)
	case q.Kind == api.QPhrase:
		return c.phraseMeaning(q, doc, byWeight)
	case isMany(q.Kind):
		return c.manyMeaning(q, doc)
	case q.Kind == api.QList:
		return c.listMeaning(q, doc, byWeight)
	case q.Kind == api.QMax:
		var out match
		for _, kid := range q.Kids {
			m := c.meaning(kid, doc, byWeight)
			out = match{out.hit || m.hit, max(out.score, m.score)}
		}
		return out
	case q.Kind == api.QNot:
		return match{hit: !c.meaning(q.Kids[0], doc, byWeight).hit}
	case q.Kind == api.QBoost:
		m := c.meaning(q.Kids[0], doc, byWeight)
		return hitOf(m.hit, q.Weight*m.score)
	case q.Kind == api.QConst:
		return hitOf(c.meaning(q.Kids[0], doc, byWeight).hit, q.Weight*api.One)
	}
	return match{}
}

func (c corpus) termMeaning(q api.Query, doc int, byWeight bool) match {
	freq := len(c.column(doc, q.Field).places[q.Text])
	weight := q.Weight
	if !byWeight {
		weight = c.idf(q.Field, q.Text)
	}
	return hitOf(freq >= 1, weight*c.sat(q.Field, doc, freq))
}

func (c corpus) phraseMeaning(q api.Query, doc int, byWeight bool) match {
	var lists [][]int
	weight := uint64(0)
	for _, text := range q.Terms {
		lists = append(lists, c.column(doc, q.Field).places[text])
		weight += c.idf(q.Field, text)
	}
	if byWeight {
		weight = q.Weight
	}
	freq := cursor.PhraseFreq(lists, q.Offs, q.N)
	return hitOf(freq >= 1, weight*c.sat(q.Field, doc, freq))
}

func (c corpus) manyMeaning(q api.Query, doc int) match {
	var out match
	accepts := accepter(q)
	for text, places := range c.column(doc, q.Field).places {
		if accepts(text) {
			out = match{true, out.score + u(q, text)*c.idf(q.Field, text)*c.sat(q.Field, doc, len(places))}
		}
	}
	return out
}

func (c corpus) listMeaning(q api.Query, doc int, byWeight bool) match {
	musts, shoulds, sum := 0, 0, uint64(0)
	for i, kid := range q.Kids {
		m := c.meaning(kid, doc, byWeight)
		switch {
		case q.Occur[i] == api.MustNot && m.hit, q.Occur[i] == api.Must && !m.hit:
			return match{}
		case q.Occur[i] == api.Must:
			musts++
		case q.Occur[i] == api.Should && m.hit:
			shoulds++
		}
		if q.Occur[i] != api.MustNot {
			sum += m.score
		}
	}
	need := q.N
	if need == 0 && musts == 0 {
		need = 1
	}
	return hitOf(shoulds >= need, sum)
}

// alike tells whether two queries are the same in every field, by going over both at once without calling itself.
func alike(a, b api.Query) bool {
	left, right := []api.Query{a}, []api.Query{b}
	for len(left) > 0 {
		x, y := left[len(left)-1], right[len(right)-1]
		left, right = left[:len(left)-1], right[:len(right)-1]
		if len(x.Kids) != len(y.Kids) || !reflect.DeepEqual(bare(x), bare(y)) {
			return false
		}
		left, right = append(left, x.Kids...), append(right, y.Kids...)
	}
	return true
}

// bare is a query without its kids, an empty list being none.
func bare(q api.Query) api.Query {
	q.Kids = nil
	if len(q.Terms) == 0 {
		q.Terms = nil
	}
	if len(q.Offs) == 0 {
		q.Offs = nil
	}
	if len(q.Occur) == 0 {
		q.Occur = nil
	}
	return q
}
