package syntax

import "concord/api"

// parser reads the tokens of a text, the last one End: at is the place in the row of the token that is looked at, depth is how many Groups and NOTs it stands in.
type parser struct {
	row   []api.Lex
	at    int
	depth int
}

// part is what has been read of a text: its tree and its nest, which a tree doesn't show.
type part struct {
	tree api.Node
	nest int
}

// joins are what joins the parts of an Or, of an And and of a Max, and the nodes that they make: those that bind less come first.
var joins = [...]struct{ mark, node int }{
	{api.LexOr, api.NOr},
	{api.LexAnd, api.NAnd},
	{api.LexBar, api.NMax},
}

// add puts a part into this one as the last of its kids.
func (x *part) add(kid part) {
	x.tree.Kids = append(x.tree.Kids, kid.tree)
	x.nest = max(x.nest, kid.nest)
}

// wrap puts a node around a part, which makes it deeper.
func (x *part) wrap(node api.Node) {
	node.Kids = []api.Node{x.tree}
	x.tree = node
	x.nest++
}

func (p *parser) query() api.Node {
	whole := p.list("")
	p.need(p.take(api.LexEnd))
	return plain(whole.tree)
}

// list reads a List, as an NList always: whether it stays one is for the part to say that it stands in. The field is that of its leaves, as long as none is named inside.
func (p *parser) list(field string) part {
	all := part{tree: api.Node{Kind: api.NList}}
	for {
		occur := p.sign()
		all.tree.Occur = append(all.tree.Occur, occur)
		if occur == api.Should {
			all.add(p.joined(0, field))
		} else {
			all.add(p.unary(field))
		}
		if p.is(api.LexEnd) || p.is(api.LexClose) {
			return all
		}
	}
}

// plain is the tree of a List without a least.
func plain(list api.Node) api.Node {
	if len(list.Kids) == 1 && list.Occur[0] == api.Should {
		return list.Kids[0]
	}
	return list
}

// sign is how a Clause occurs by the sign that it begins with.
func (p *parser) sign() int {
	switch {
	case p.take(api.LexPlus):
		return api.Must
	case p.take(api.LexMinus):
		return api.MustNot
	}
	return api.Should
}

// joined reads an Or, an And, a Max or a Unary, at the ranks 0, 1, 2 and 3.
func (p *parser) joined(rank int, field string) part {
	if rank == len(joins) {
		return p.unary(field)
	}
	first := p.joined(rank+1, field)
	if !p.is(joins[rank].mark) {
		return first
	}
	all := part{tree: api.Node{Kind: joins[rank].node}}
	all.add(first)
	for p.take(joins[rank].mark) {
		all.add(p.joined(rank+1, field))
	}
	return all
}

func (p *parser) unary(field string) part {
	if !p.take(api.LexNot) {
		return p.piece(field)
	}
	p.enter()
	whole := p.unary(field)
	p.depth--
	whole.wrap(api.Node{Kind: api.NNot})
	return whole
}

func (p *parser) piece(field string) part {
	whole := p.atom(field)
	for {
		n := p.token().N
		switch {
		case p.take(api.LexBoost):
			whole.wrap(api.Node{Kind: api.NBoost, N: n})
		case p.take(api.LexConst):
			whole.wrap(api.Node{Kind: api.NConst, N: n})
		default:
			return whole
		}
		p.limit(whole.nest)
	}
}

func (p *parser) atom(field string) part {
	switch {
	case isStar(p.token()) && p.isBehind(api.LexColon):
		p.at += 2
		p.need(isStar(p.token()))
		p.at++
		return part{tree: api.Node{Kind: api.NAll}}
	case p.is(api.LexWord) && p.isBehind(api.LexColon):
		field = p.token().Text
		p.at += 2
	}
	if p.take(api.LexOpen) {
		return p.group(field)
	}
	return part{tree: p.leaf(field)}
}

// group reads a Group behind its Open.
func (p *parser) group(field string) part {
	p.enter()
	whole := p.list(field)
	p.depth--
	p.need(p.take(api.LexClose))
	whole.nest++
	least := p.token().N
	if p.take(api.LexLeast) && least > 0 {
		whole.tree.N = least
	} else {
		whole.tree = plain(whole.tree)
	}
	return whole
}

// enter goes into a Group or behind a NOT.
func (p *parser) enter() {
	p.depth++
	p.limit(0)
}

// limit gives up, if a part of this nest makes the text's nest too great, where the part stands. It is asked for where a text goes deeper: at each Group and NOT ahead of what they hold, so that the parser never calls itself deeper than that, and at each Boost and Const.
func (p *parser) limit(nest int) {
	if p.depth+nest > api.MaxNest {
		panic(api.ErrDeep)
	}
}

// need gives up unless ok holds.
func (p *parser) need(ok bool) {
	if !ok {
		panic(api.ErrSyntax)
	}
}

// token is the token that is looked at. No part goes on behind the End, so there is one always.
func (p *parser) token() api.Lex {
	return p.row[p.at]
}

func (p *parser) is(kind int) bool {
	return p.token().Kind == kind
}

// isBehind tells the kind of the token behind the one that is looked at, which isn't the End.
func (p *parser) isBehind(kind int) bool {
	return p.row[p.at+1].Kind == kind
}

func (p *parser) take(kind int) bool {
	if !p.is(kind) {
		return false
	}
	p.at++
	return true
}
