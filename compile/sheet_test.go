package compile_test

import (
	"slices"

	"concord/api"
	"concord/cursor"
	"concord/score"
	"concord/tokens"
)

// sheet is a document by its tokens: the positions of each term, and the length of each field.
type sheet struct {
	id      int
	dead    bool
	places  map[api.Leaf][]int
	lengths [api.MaxFields]int
}

func sheetOf(s api.Schema, d api.Doc, dead bool) sheet {
	x := sheet{id: d.Id, dead: dead, places: map[api.Leaf][]int{}}
	for field := range s.Fields {
		for _, token := range tokens.Field(s, field, d.Values) {
			leaf := api.Leaf{Field: field, Term: token.Text}
			x.places[leaf] = append(x.places[leaf], token.Pos)
			x.lengths[field]++
		}
	}
	return x
}

// hasOne tells whether a document has a token of one of these leaves.
func (x sheet) hasOne(leaves []api.Leaf) bool {
	return slices.ContainsFunc(leaves, func(leaf api.Leaf) bool { return len(x.places[leaf]) > 0 })
}

// shelf is the live documents of parts. The model of what a query means goes by DOC.md's section Meaning over them alone.
type shelf struct {
	live []sheet
	avgs [api.MaxFields]int
}

func shelfOf(cut []made) shelf {
	var s shelf
	for _, m := range cut {
		for _, x := range m.sheets {
			if !x.dead {
				s.live = append(s.live, x)
			}
		}
	}
	for field := range s.avgs {
		for _, x := range s.live {
			s.avgs[field] += x.lengths[field]
		}
		s.avgs[field] /= max(len(s.live), 1)
	}
	return s
}

// match is whether a document matches, and with which score.
type match struct {
	hit   bool
	score uint64
}

func hitOf(hit bool, score uint64) match {
	if !hit {
		return match{}
	}
	return match{true, score}
}

// meaning is what an expanded query comes to for a document.
func (s shelf) meaning(q api.Query, x sheet) match {
	switch q.Kind {
	case api.QAll:
		return match{true, api.One}
	case api.QHas:
		return hitOf(x.lengths[q.Field] >= 1, api.One)
	case api.QTerm:
		freq := len(x.places[api.Leaf{Field: q.Field, Term: q.Text}])
		return hitOf(freq >= 1, q.Weight*score.Sat(freq, x.lengths[q.Field], s.avgs[q.Field]))
	case api.QPhrase:
		var lists [][]int
		for _, text := range q.Terms {
			lists = append(lists, x.places[api.Leaf{Field: q.Field, Term: text}])
		}
		freq := cursor.PhraseFreq(lists, q.Offs, q.N)
		return hitOf(freq >= 1, q.Weight*score.Sat(freq, x.lengths[q.Field], s.avgs[q.Field]))
	case api.QList:
		return s.listMeaning(q, x)
	case api.QMax:
		var out match
		for _, kid := range q.Kids {
			m := s.meaning(kid, x)
			out = match{out.hit || m.hit, max(out.score, m.score)}
		}
		return out
	case api.QNot:
		return match{hit: !s.meaning(q.Kids[0], x).hit}
	case api.QBoost:
		m := s.meaning(q.Kids[0], x)
		return hitOf(m.hit, q.Weight*m.score)
	case api.QConst:
		return hitOf(s.meaning(q.Kids[0], x).hit, q.Weight*api.One)
	}
	return match{}
}

func (s shelf) listMeaning(q api.Query, x sheet) match {
	met, sum := 0, uint64(0)
	for i, kid := range q.Kids {
		m := s.meaning(kid, x)
		switch {
		case q.Occur[i] == api.MustNot && m.hit, q.Occur[i] == api.Must && !m.hit:
			return match{}
		case q.Occur[i] == api.Should && m.hit:
			met++
		}
		if q.Occur[i] != api.MustNot {
			sum += m.score
		}
	}
	return hitOf(met >= modelNeed(q), sum)
}
