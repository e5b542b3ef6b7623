package plan_test

import (
	"slices"
	"strings"

	"concord/api"
	"concord/cursor"
	"concord/score"
	"concord/tokens"
)

// shelf is the documents of parts, live and dead, by their tokens: the model goes by the chapter's words over them, without any dictionary.
type shelf struct {
	docs, live []sheet
	avgs       [api.MaxFields]int // of the live ones
}

// sheet is a document: the positions of each term, and the length of each field.
type sheet struct {
	places  map[api.Leaf][]int
	lengths [api.MaxFields]int
}

func sheetOf(s api.Schema, d api.Doc) sheet {
	x := sheet{places: map[api.Leaf][]int{}}
	for field := range s.Fields {
		for _, token := range tokens.Field(s, field, d.Values) {
			leaf := api.Leaf{Field: field, Term: token.Text}
			x.places[leaf] = append(x.places[leaf], token.Pos)
			x.lengths[field]++
		}
	}
	return x
}

func shelfOf(list []made) shelf {
	var s shelf
	for _, m := range list {
		s.docs = append(s.docs, m.sheets...)
		for local, x := range m.sheets {
			if !slices.Contains(m.dead, local) {
				s.live = append(s.live, x)
			}
		}
	}
	for field := range s.avgs {
		for _, x := range s.live {
			s.avgs[field] += x.lengths[field]
		}
		s.avgs[field] /= max(len(s.live), 1)
	}
	return s
}

// leafCost is the number of documents that have a leaf, live or dead.
func (s shelf) leafCost(leaf api.Leaf) int {
	n := 0
	for _, x := range s.docs {
		if len(x.places[leaf]) > 0 {
			n++
		}
	}
	return n
}

func modelNeed(q api.Query) int {
	if q.N > 0 {
		return q.N
	}
	if len(kidsThat(q, api.Must)) == 0 {
		return 1
	}
	return 0
}

// kidsThat are the kids of a list that occur so.
func kidsThat(q api.Query, occur int) []api.Query {
	var kids []api.Query
	for i, kid := range q.Kids {
		if q.Occur[i] == occur {
			kids = append(kids, kid)
		}
	}
	return kids
}

// cost is the cost of a query.
func (s shelf) cost(q api.Query) int {
	switch q.Kind {
	case api.QAll, api.QHas, api.QNot:
		return len(s.live)
	case api.QTerm:
		return s.leafCost(api.Leaf{Field: q.Field, Term: q.Text})
	case api.QPhrase:
		least := len(s.docs)
		for _, text := range q.Terms {
			least = min(least, s.leafCost(api.Leaf{Field: q.Field, Term: text}))
		}
		return least
	case api.QMax:
		return s.costs(q.Kids)
	case api.QBoost, api.QConst:
		return s.cost(q.Kids[0])
	case api.QList:
		least := 1 << 60
		for _, kid := range kidsThat(q, api.Must) {
			least = min(least, s.cost(kid))
		}
		if need, some := modelNeed(q), kidsThat(q, api.Should); need > len(some) {
			least = 0
		} else if need >= 1 {
			least = min(least, s.costs(some))
		}
		return least
	}
	return 0
}

// costs is the sum of the costs of queries.
func (s shelf) costs(kids []api.Query) int {
	sum := 0
	for _, kid := range kids {
		sum += s.cost(kid)
	}
	return sum
}

// rising is queries by rising cost: one is put ahead of all that cost more.
func (s shelf) rising(kids []api.Query) []api.Query {
	var out []api.Query
	for _, kid := range kids {
		at := len(out)
		for at > 0 && s.cost(out[at-1]) > s.cost(kid) {
			at--
		}
		out = slices.Insert(out, at, kid)
	}
	return out
}

// falling is queries by falling cost.
func (s shelf) falling(kids []api.Query) []api.Query {
	var out []api.Query
	for _, kid := range kids {
		at := len(out)
		for at > 0 && s.cost(out[at-1]) < s.cost(kid) {
			at--
		}
		out = slices.Insert(out, at, kid)
	}
	return out
}

// ordered is the ordered query.
func (s shelf) ordered(q api.Query) api.Query {
	out := q
	out.Kids = nil
	for _, kid := range q.Kids {
		out.Kids = append(out.Kids, s.ordered(kid))
	}
	switch q.Kind {
	case api.QMax:
		out.Kids = s.rising(out.Kids)
	case api.QList:
		first, second, third := s.rising(kidsThat(out, api.Must)), s.falling(kidsThat(out, api.MustNot)), s.rising(kidsThat(out, api.Should))
		signs := strings.Repeat("+", len(first)) + strings.Repeat("-", len(second)) + strings.Repeat(" ", len(third))
		return list(q.N, signs, slices.Concat(first, second, third)...)
	}
	return out
}

// driver is what drives: all documents, or leaves, each once.
type driver struct {
	all    bool
	leaves []api.Leaf
}

func (s shelf) price(d driver) int {
	if d.all {
		return len(s.live)
	}
	sum := 0
	for _, leaf := range d.leaves {
		sum += s.leafCost(leaf)
	}
	return sum
}

// drive is what drives an ordered query.
func (s shelf) drive(q api.Query) driver {
	switch q.Kind {
	case api.QAll, api.QHas, api.QNot:
		return driver{all: true}
	case api.QTerm:
		return driver{leaves: []api.Leaf{{Field: q.Field, Term: q.Text}}}
	case api.QPhrase:
		for _, text := range q.Terms {
			if leaf := (api.Leaf{Field: q.Field, Term: text}); s.leafCost(leaf) == s.cost(q) {
				return driver{leaves: []api.Leaf{leaf}}
			}
		}
	case api.QMax:
		return s.drives(q.Kids)
	case api.QBoost, api.QConst:
		return s.drive(q.Kids[0])
	case api.QList:
		var candidates []driver
		for _, kid := range kidsThat(q, api.Must) {
			candidates = append(candidates, s.drive(kid))
		}
		if need, some := modelNeed(q), kidsThat(q, api.Should); need > len(some) {
			candidates = append(candidates, driver{})
		} else if need >= 1 {
			candidates = append(candidates, s.drives(some[:len(some)-need+1]))
		}
		best := candidates[0]
		for _, other := range candidates[1:] {
			if s.price(other) < s.price(best) {
				best = other
			}
		}
		return best
	}
	return driver{}
}

// drives is the drives of queries together.
func (s shelf) drives(kids []api.Query) driver {
	var out driver
	for _, kid := range kids {
		d := s.drive(kid)
		if d.all {
			return d
		}
		for _, leaf := range d.leaves {
			if !slices.Contains(out.leaves, leaf) {
				out.leaves = append(out.leaves, leaf)
			}
		}
	}
	return out
}

// plan is the plan of a query.
func (s shelf) plan(q api.Query) api.Plan {
	root := s.ordered(q)
	d := s.drive(root)
	// A field's number ahead of the term makes one text of both.
	slices.SortFunc(d.leaves, func(a, b api.Leaf) int {
		return strings.Compare(string(rune('A'+a.Field))+a.Term, string(rune('A'+b.Field))+b.Term)
	})
	return api.Plan{Root: root, All: d.all, Drive: d.leaves}
}

// match is whether a document matches, and with which score.
type match struct {
	hit   bool
	score uint64
}

func hitOf(hit bool, score uint64) match {
	if !hit {
		return match{}
	}
	return match{true, score}
}

// meaning is what an expanded query comes to for a document, by DOC.md's section Meaning.
func (s shelf) meaning(q api.Query, x sheet) match {
	switch q.Kind {
	case api.QAll:
		return match{true, api.One}
	case api.QHas:
		return hitOf(x.lengths[q.Field] >= 1, api.One)
	case api.QTerm:
		freq := len(x.places[api.Leaf{Field: q.Field, Term: q.Text}])
		return hitOf(freq >= 1, q.Weight*score.Sat(freq, x.lengths[q.Field], s.avgs[q.Field]))
	case api.QPhrase:
		var lists [][]int
		for _, text := range q.Terms {
			lists = append(lists, x.places[api.Leaf{Field: q.Field, Term: text}])
		}
		freq := cursor.PhraseFreq(lists, q.Offs, q.N)
		return hitOf(freq >= 1, q.Weight*score.Sat(freq, x.lengths[q.Field], s.avgs[q.Field]))
	case api.QList:
		return s.listMeaning(q, x)
	case api.QMax:
		var out match
		for _, kid := range q.Kids {
			m := s.meaning(kid, x)
			out = match{out.hit || m.hit, max(out.score, m.score)}
		}
		return out
	case api.QNot:
		return match{hit: !s.meaning(q.Kids[0], x).hit}
	case api.QBoost:
		m := s.meaning(q.Kids[0], x)
		return hitOf(m.hit, q.Weight*m.score)
	case api.QConst:
		return hitOf(s.meaning(q.Kids[0], x).hit, q.Weight*api.One)
	}
	return match{}
}

func (s shelf) listMeaning(q api.Query, x sheet) match {
	met, sum := 0, uint64(0)
	for i, kid := range q.Kids {
		m := s.meaning(kid, x)
		switch {
		case q.Occur[i] == api.MustNot && m.hit, q.Occur[i] == api.Must && !m.hit:
			return match{}
		case q.Occur[i] == api.Should && m.hit:
			met++
		}
		if q.Occur[i] != api.MustNot {
			sum += m.score
		}
	}
	return hitOf(met >= modelNeed(q), sum)
}

// alike tells whether two queries are the same in every field, by going over both at once without calling itself.
func alike(a, b api.Query) bool {
	left, right := []*api.Query{&a}, []*api.Query{&b}
	for len(left) > 0 {
		x, y := left[len(left)-1], right[len(right)-1]
		left, right = left[:len(left)-1], right[:len(right)-1]
		if x.Kind != y.Kind || x.Field != y.Field || x.Text != y.Text || x.N != y.N || x.Weight != y.Weight || x.Lo != y.Lo || x.Hi != y.Hi {
			return false
		}
		if !slices.Equal(x.Terms, y.Terms) || !slices.Equal(x.Offs, y.Offs) || !slices.Equal(x.Occur, y.Occur) || len(x.Kids) != len(y.Kids) {
			return false
		}
		for i := range x.Kids {
			left, right = append(left, &x.Kids[i]), append(right, &y.Kids[i])
		}
	}
	return true
}

func alikePlans(a, b api.Plan) bool {
	return alike(a.Root, b.Root) && a.All == b.All && slices.Equal(a.Drive, b.Drive)
}
