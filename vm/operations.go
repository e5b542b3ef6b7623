package vm

import (
	"concord/api"
	"concord/cursor"
	"concord/score"
)

// value is a miss, or a hit with its score. The score of a miss is 0, so that it can be added up and compared as it is.
type value struct {
	hit   bool
	score uint64
}

// hitIf is a hit with this score, if hit is true; else a miss.
func hitIf(hit bool, score uint64) value {
	if !hit {
		return value{}
	}
	return value{true, score}
}

// operation does to a machine's stack what an instruction asks.
type operation func(m *Machine, in api.Instr)

// operations are the operations by their numbers, but for the end and the skips: by those the loop itself goes.
func operations() []operation {
	return []operation{
		api.OpNone:   puts(func(*Machine, api.Instr) value { return value{} }),
		api.OpAll:    puts(func(*Machine, api.Instr) value { return value{true, api.One} }),
		api.OpHas:    puts((*Machine).has),
		api.OpTerm:   puts((*Machine).term),
		api.OpPhrase: puts((*Machine).phrase),
		api.OpAnd:    joins(func(x, y value) value { return hitIf(x.hit && y.hit, x.score+y.score) }),
		api.OpOr:     joins(func(x, y value) value { return hitIf(x.hit || y.hit, x.score+y.score) }),
		api.OpMax:    joins(func(x, y value) value { return hitIf(x.hit || y.hit, max(x.score, y.score)) }),
		api.OpOpt:    joins(func(x, y value) value { return hitIf(x.hit, x.score+y.score) }),
		api.OpExcept: joins(func(x, y value) value { return hitIf(x.hit && !y.hit, x.score) }),
		api.OpNot:    turns(func(x value, _ uint64) value { return hitIf(!x.hit, 0) }),
		api.OpScale:  turns(func(x value, factor uint64) value { return hitIf(x.hit, factor*x.score) }),
		api.OpFix:    turns(func(x value, factor uint64) value { return hitIf(x.hit, factor*api.One) }),
		api.OpLeast:  (*Machine).least,
	}
}

// puts is an operation that takes nothing.
func puts(what func(m *Machine, in api.Instr) value) operation {
	return func(m *Machine, in api.Instr) { m.put(what(m, in)) }
}

// turns is an operation that takes one value, and asks for the first operand at most.
func turns(what func(x value, a uint64) value) operation {
	return func(m *Machine, in api.Instr) { m.put(what(m.take(), in.A)) }
}

// joins is an operation that takes two values: y is the one on top.
func joins(what func(x, y value) value) operation {
	return func(m *Machine, _ api.Instr) {
		y := m.take()
		x := m.take()
		m.put(what(x, y))
	}
}

func (m *Machine) put(v value) {
	m.stack = append(m.stack, v)
}

func (m *Machine) top() value {
	return m.stack[len(m.stack)-1]
}

func (m *Machine) take() value {
	v := m.top()
	m.stack = m.stack[:len(m.stack)-1]
	return v
}

func (m *Machine) has(in api.Instr) value {
	return hitIf(m.part.Length(int(in.A), m.place) >= 1, api.One)
}

func (m *Machine) term(in api.Instr) value {
	l := m.leaves[in.A]
	if l.Advance(m.place) != m.place {
		return value{}
	}
	return m.scored(l.Freq(), l.field, in.B)
}

func (m *Machine) phrase(in api.Instr) value {
	n := &m.nears[in.A]
	// Positions are moves: none are asked for before all cursors stand at the document.
	for _, l := range n.leaves {
		if l.Advance(m.place) != m.place {
			return value{}
		}
	}
	lists := make([][]int, len(n.leaves))
	for i, l := range n.leaves {
		lists[i] = l.Positions()
	}
	freq := cursor.PhraseFreq(lists, n.offs, n.slop)
	if freq == 0 {
		return value{}
	}
	return m.scored(freq, n.leaves[0].field, in.B)
}

// scored is a hit of what this frequency counts in a field of the document at the place.
func (m *Machine) scored(freq, field int, weight uint64) value {
	return value{true, weight * score.Sat(freq, m.part.Length(field, m.place), m.avgs[field])}
}

func (m *Machine) least(in api.Instr) {
	hits, sum := uint64(0), uint64(0)
	for range in.A {
		v := m.take()
		sum += v.score
		if v.hit {
			hits++
		}
	}
	m.put(hitIf(hits >= in.B, sum))
}
