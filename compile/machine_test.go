package compile_test

import (
	"concord/api"
	"concord/cursor"
	"concord/isa"
	"concord/score"
	"concord/segment"
)

// machine runs a program over a part, by the words of doc/23-vm.md.
type machine struct {
	prog    api.Prog
	code    []api.Instr
	part    *segment.Part
	cursors []*cursor.Cursor
	place   int
	stack   []match
	met     kinds // how often an operation came to what
}

func newMachine(p api.Prog, part *segment.Part, met kinds) *machine {
	m := &machine{prog: p, part: part, place: -1, met: met}
	m.code, _ = isa.Decode(p.Code)
	for _, leaf := range p.Cursors {
		m.cursors = append(m.cursors, part.Cursor(leaf.Field, leaf.Term))
	}
	return m
}

// run is what the machine tells of all documents that it visits.
func (m *machine) run() []api.Hit {
	var hits []api.Hit
	for m.next() {
		id, _ := m.part.Id(m.place)
		if answer := m.visit(); answer.hit {
			hits = append(hits, api.Hit{Id: id, Score: answer.score})
		}
	}
	return hits
}

// next goes on to the next document; false, if there is none.
func (m *machine) next() bool {
	if m.prog.All {
		local, ok := m.part.NextAlive(m.place + 1)
		m.place = local
		return ok
	}
	for {
		least := api.EndDoc
		for _, i := range m.prog.Drive {
			if m.cursors[i].Doc() < m.place+1 {
				m.cursors[i].Advance(m.place + 1)
			}
			least = min(least, m.cursors[i].Doc())
		}
		if least == api.EndDoc {
			return false
		}
		m.place = least
		if m.part.Alive(least) {
			return true
		}
	}
}

// visit runs the code over the document at the place.
func (m *machine) visit() match {
	m.stack = nil
	for at := 0; ; at++ {
		in := m.code[at]
		switch in.Op {
		case api.OpEnd:
			return m.take()
		case api.OpMiss, api.OpHit:
			top := m.take()
			m.stack = append(m.stack, top)
			if top.hit == (in.Op == api.OpHit) {
				at += int(in.A)
				m.note(in.Op, true)
			} else {
				m.note(in.Op, false)
			}
			continue
		}
		v := m.value(in)
		m.note(in.Op, v.hit)
		if !v.hit {
			v.score = 0
		}
		m.stack = append(m.stack, v)
	}
}

func (m *machine) note(op int, came bool) {
	name, _ := isa.Name(op)
	m.met.note(name, came)
	m.met.note("no "+name, !came)
}

func (m *machine) take() match {
	top := m.stack[len(m.stack)-1]
	m.stack = m.stack[:len(m.stack)-1]
	return top
}

// value is what an operation puts that isn't a skip.
func (m *machine) value(in api.Instr) match {
	switch in.Op {
	case api.OpAll:
		return match{true, api.One}
	case api.OpHas:
		return match{m.part.Length(int(in.A), m.place) >= 1, api.One}
	case api.OpTerm:
		return m.term(in)
	case api.OpPhrase:
		return m.phrase(in)
	case api.OpAnd, api.OpOr, api.OpMax, api.OpOpt, api.OpExcept:
		y := m.take()
		return two(in.Op, m.take(), y)
	case api.OpNot:
		return match{hit: !m.take().hit}
	case api.OpScale:
		x := m.take()
		return match{x.hit, in.A * x.score}
	case api.OpFix:
		return match{m.take().hit, in.A * api.One}
	case api.OpLeast:
		hits, sum := uint64(0), uint64(0)
		for range in.A {
			if x := m.take(); x.hit {
				hits, sum = hits+1, sum+x.score
			}
		}
		return match{hits >= in.B, sum}
	}
	return match{}
}

// two is what an operation makes of two values, y being the one on top.
func two(op int, x, y match) match {
	switch op {
	case api.OpAnd:
		return match{x.hit && y.hit, x.score + y.score}
	case api.OpOr:
		return match{x.hit || y.hit, x.score + y.score}
	case api.OpMax:
		return match{x.hit || y.hit, max(x.score, y.score)}
	case api.OpOpt:
		return match{x.hit, x.score + y.score}
	}
	return match{x.hit && !y.hit, x.score}
}

// stands takes a cursor on to the document, and tells whether it has it.
func (m *machine) stands(i int) bool {
	if m.cursors[i].Doc() < m.place {
		m.cursors[i].Advance(m.place)
	}
	return m.cursors[i].Doc() == m.place
}

func (m *machine) term(in api.Instr) match {
	if !m.stands(int(in.A)) {
		return match{}
	}
	return m.scored(m.cursors[in.A].Freq(), m.prog.Cursors[in.A].Field, in.B)
}

func (m *machine) phrase(in api.Instr) match {
	near := m.prog.Nears[in.A]
	for _, i := range near.Cursors {
		if !m.stands(i) {
			return match{}
		}
	}
	var lists [][]int
	for _, i := range near.Cursors {
		lists = append(lists, m.cursors[i].Positions())
	}
	freq := cursor.PhraseFreq(lists, near.Offs, near.Slop)
	if freq == 0 {
		return match{}
	}
	return m.scored(freq, m.prog.Cursors[near.Cursors[0]].Field, in.B)
}

func (m *machine) scored(freq, field int, weight uint64) match {
	return match{true, weight * score.Sat(freq, m.part.Length(field, m.place), m.prog.Avgs[field])}
}
