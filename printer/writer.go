package printer

import (
	"strconv"
	"strings"

	"concord/api"
	"concord/auto"
	"concord/lexer"
)

// The levels of trees: what binds less comes first.
const (
	listLevel = iota
	orLevel
	andLevel
	maxLevel
	notLevel
	pieceLevel
	atomLevel
)

// levelOf is the level of a good tree.
func levelOf(n api.Node) int {
	switch n.Kind {
	case api.NList:
		if n.N == 0 {
			return listLevel
		}
	case api.NOr:
		return orLevel
	case api.NAnd:
		return andLevel
	case api.NMax:
		return maxLevel
	case api.NNot:
		return notLevel
	case api.NBoost, api.NConst:
		return pieceLevel
	}
	return atomLevel
}

// writer has what has been printed of a canonical tree.
type writer struct {
	strings.Builder
}

// print puts a tree, in brackets where it binds less than what is asked.
func (w *writer) print(n api.Node, level int) {
	if levelOf(n) >= level {
		w.form(n)
		return
	}
	w.WriteString("(")
	w.form(n)
	w.WriteString(")")
}

// form puts a tree without brackets around it.
func (w *writer) form(n api.Node) {
	switch n.Kind {
	case api.NAll:
		w.WriteString("*:*")
	case api.NList:
		w.list(n)
	case api.NOr:
		w.joined(n.Kids, orLevel+1, " OR ")
	case api.NAnd:
		w.joined(n.Kids, andLevel+1, " AND ")
	case api.NMax:
		w.joined(n.Kids, maxLevel+1, " | ")
	case api.NNot:
		w.WriteString("NOT ")
		w.print(n.Kids[0], notLevel)
	case api.NBoost:
		w.print(n.Kids[0], pieceLevel)
		w.number("^", n.N)
	case api.NConst:
		w.print(n.Kids[0], pieceLevel)
		w.number("^=", n.N)
	default:
		w.leaf(n)
	}
}

// number puts a mark and a number behind it.
func (w *writer) number(mark string, n int) {
	w.WriteString(mark)
	w.WriteString(strconv.Itoa(n))
}

// joined puts trees with a mark between two.
func (w *writer) joined(kids []api.Node, level int, mark string) {
	for i, kid := range kids {
		if i > 0 {
			w.WriteString(mark)
		}
		w.print(kid, level)
	}
}

// list puts an NList. One with a least has brackets of its own, for the least to stand behind.
func (w *writer) list(n api.Node) {
	if n.N == 0 {
		w.clauses(n)
		return
	}
	w.WriteString("(")
	w.clauses(n)
	w.WriteString(")")
	w.number("@", n.N)
}

func (w *writer) clauses(n api.Node) {
	for i, kid := range n.Kids {
		if i > 0 {
			w.WriteString(" ")
		}
		switch n.Occur[i] {
		case api.Must:
			w.WriteString("+")
			w.print(kid, notLevel)
		case api.MustNot:
			w.WriteString("-")
			w.print(kid, notLevel)
		default:
			w.print(kid, orLevel)
		}
	}
}

// leaf puts a leaf that has a Field.
func (w *writer) leaf(n api.Node) {
	if n.Field != "" {
		w.WriteString(lexer.Word(n.Field))
		w.WriteString(":")
	}
	switch n.Kind {
	case api.NTerm:
		w.WriteString(lexer.Word(n.Text))
	case api.NPhrase:
		w.WriteString(lexer.Quote(n.Text))
		if n.N > 0 {
			w.number("~", n.N)
		}
	case api.NPrefix:
		w.WriteString(lexer.Pattern(auto.Literal(n.Text) + "*"))
	case api.NWild:
		w.WriteString(lexer.Pattern(n.Text))
	case api.NFuzzy:
		w.WriteString(lexer.Word(n.Text))
		w.number("~", n.N)
	case api.NSpan:
		w.span(n.Lo, n.Hi)
	case api.NHas:
		w.WriteString("*")
	}
}

// span puts an NSpan. Whether an end is in shows in its bracket.
func (w *writer) span(lo, hi api.Bound) {
	first, last := "{", "}"
	if lo.In || lo.Open {
		first = "["
	}
	if hi.In || hi.Open {
		last = "]"
	}
	w.WriteString(first + side(lo) + " TO " + side(hi) + last)
}

// side is the text of one end of a span. The empty text is no word, so it stands in quotes.
func side(end api.Bound) string {
	switch {
	case end.Open:
		return "*"
	case end.Text == "":
		return lexer.Quote("")
	}
	return lexer.Word(end.Text)
}
