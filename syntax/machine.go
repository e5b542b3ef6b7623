package syntax

import "concord/api"

// noKind is the kind of the token behind a row's last one: no part of the grammar asks for it.
const noKind = -1

// level is a List that is being gone over: the greatest nest of its parts so far, how many NOTs stand ahead of the part that is looked at, and whether that part has a sign, so that none may be joined to it.
type level struct {
	nest   int
	nots   int
	signed bool
}

// machine is the recogniser at work: at is the place in the row of the token that is looked at, missed has a bit for each kind that was asked for in vain there, nest is the nest of the Piece so far, top is the innermost List, outer are those around it.
type machine struct {
	row    []api.Lex
	at     int
	missed uint32
	nest   int
	top    level
	outer  []level
}

// run goes over the row up to the first End that ends a query; false, if a token doesn't fit (or the row is too short): at is its place then, and what could have stood there has been missed.
func (m *machine) run() bool {
clause:
	m.top.signed = m.take(api.LexPlus) || m.take(api.LexMinus)
unary:
	if m.take(api.LexNot) {
		m.top.nots++
		goto unary
	}
	switch {
	case m.takeStar():
		goto star
	case m.take(api.LexWord):
		goto word
	}
body:
	switch {
	case m.take(api.LexOpen):
		m.open()
		goto clause
	case m.take(api.LexSquare), m.take(api.LexCurly):
		if !m.takeSides() {
			return false
		}
	case m.take(api.LexQuoted):
		m.takeSlop()
	case m.take(api.LexWord):
		m.takeEdits()
	case !m.take(api.LexPattern):
		return false
	}
	goto piece
star:
	if m.take(api.LexColon) && !m.takeStar() {
		return false
	}
	goto piece
word:
	if m.take(api.LexColon) {
		goto body
	}
	m.takeEdits()
piece:
	if m.take(api.LexBoost) || m.take(api.LexConst) {
		m.nest++
		goto piece
	}
	m.endUnary()
	switch {
	case !m.top.signed && m.takeJoin():
		goto unary
	case len(m.outer) == 0 && m.take(api.LexEnd):
		return true
	case len(m.outer) > 0 && m.take(api.LexClose):
		m.close()
		m.take(api.LexLeast)
		goto piece
	}
	goto clause
}

// token is the token that is looked at.
func (m *machine) token() api.Lex {
	if m.at == len(m.row) {
		return api.Lex{Kind: noKind}
	}
	return m.row[m.at]
}

// pass passes over the token that is looked at, if it fits; if not, its place has missed one of this kind.
func (m *machine) pass(kind int, fits bool) bool {
	if !fits {
		m.missed |= 1 << kind
		return false
	}
	m.at++
	m.missed = 0
	return true
}

// lacking are the kinds that have been missed, rising.
func (m *machine) lacking() []int {
	var kinds []int
	for kind := api.LexEnd; kind <= api.LexLeast; kind++ {
		if m.missed&(1<<kind) != 0 {
			kinds = append(kinds, kind)
		}
	}
	return kinds
}

func (m *machine) take(kind int) bool {
	return m.pass(kind, m.token().Kind == kind)
}

func (m *machine) takeStar() bool {
	return m.pass(api.LexPattern, isStar(m.token()))
}

func (m *machine) takeEdits() bool {
	return m.pass(api.LexTilde, isEdits(m.token()))
}

func (m *machine) takeSlop() bool {
	return m.pass(api.LexTilde, isSlop(m.token()))
}

func (m *machine) takeSide() bool {
	return m.take(api.LexWord) || m.take(api.LexQuoted) || m.takeStar()
}

// takeSides takes what stands in a Span behind its first bracket.
func (m *machine) takeSides() bool {
	return m.takeSide() && m.take(api.LexTo) && m.takeSide() && (m.take(api.LexSquared) || m.take(api.LexCurled))
}

// takeJoin takes what joins two parts of one Clause. A machine needn't know how they bind: none of them makes a nest.
func (m *machine) takeJoin() bool {
	return m.take(api.LexOr) || m.take(api.LexAnd) || m.take(api.LexBar)
}

// open begins the List of a Group.
func (m *machine) open() {
	m.outer = append(m.outer, m.top)
	m.top = level{}
}

// close ends the List of a Group: the Piece so far is that Group, in the List around it.
func (m *machine) close() {
	m.nest = m.top.nest + 1
	last := len(m.outer) - 1
	m.top = m.outer[last]
	m.outer = m.outer[:last]
}

// endUnary ends a Piece and the NOTs ahead of it.
func (m *machine) endUnary() {
	m.top.nest = max(m.top.nest, m.nest+m.top.nots)
	m.top.nots = 0
	m.nest = 0
}
