package syntax

import (
	"strings"

	"concord/api"
)

// leaf reads a Leaf. Each leaf has the field's name as a text of its own, as no two texts of a tree may share memory.
func (p *parser) leaf(field string) api.Node {
	token := p.token()
	var leaf api.Node
	switch {
	case p.take(api.LexWord):
		leaf = p.word(token.Text)
	case p.take(api.LexPattern):
		leaf = pattern(token.Text)
	case p.take(api.LexQuoted):
		leaf = p.quoted(token.Text)
	case p.take(api.LexSquare):
		leaf = p.span(true)
	case p.take(api.LexCurly):
		leaf = p.span(false)
	default:
		p.need(false)
	}
	leaf.Field = strings.Clone(field)
	return leaf
}

// word is the leaf of a Word and of the Edits behind it, if there are any.
func (p *parser) word(text string) api.Node {
	token := p.token()
	if !isEdits(token) {
		return api.Node{Kind: api.NTerm, Text: text}
	}
	p.at++
	if token.N < 0 {
		token.N = 2
	}
	return api.Node{Kind: api.NFuzzy, Text: text, N: token.N}
}

// quoted is the leaf of a Quoted and of the Slop behind it, if there is one.
func (p *parser) quoted(text string) api.Node {
	leaf := api.Node{Kind: api.NPhrase, Text: text}
	if token := p.token(); isSlop(token) {
		p.at++
		leaf.N = token.N
	}
	return leaf
}

// pattern is the leaf of a Pattern.
func pattern(text string) api.Node {
	head, ok := letters(text)
	switch {
	case !ok:
		return api.Node{Kind: api.NWild, Text: text}
	case head == "":
		return api.Node{Kind: api.NHas}
	}
	return api.Node{Kind: api.NPrefix, Text: head}
}

// letters are the letters of a pattern that is letters and one star behind them; false for every other pattern. A Pattern has a star or a gap: where its last byte is a star by an escape, as a letter, one of them is met ahead of that escape.
func letters(text string) (string, bool) {
	head, ok := strings.CutSuffix(text, "*")
	if !ok {
		return "", false
	}
	out := make([]byte, 0, len(head))
	for i := 0; i < len(head); i++ {
		switch head[i] {
		case '*', '?':
			return "", false
		case '\\':
			i++
		}
		out = append(out, head[i])
	}
	return string(out), true
}

// span reads a Span behind its first bracket, which tells whether its lower side is in.
func (p *parser) span(in bool) api.Node {
	lo := p.side(in)
	p.need(p.take(api.LexTo))
	hi := p.side(false)
	if p.take(api.LexSquared) {
		hi.In = !hi.Open
	} else {
		p.need(p.take(api.LexCurled))
	}
	return api.Node{Kind: api.NSpan, Lo: lo, Hi: hi}
}

// side reads a Side.
func (p *parser) side(in bool) api.Bound {
	token := p.token()
	if isStar(token) {
		p.at++
		return api.Bound{Open: true}
	}
	p.need(p.take(api.LexWord) || p.take(api.LexQuoted))
	return api.Bound{In: in, Text: token.Text}
}
