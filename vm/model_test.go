package vm_test

import (
	"math/big"
	"slices"

	"concord/api"
	"concord/cursor"
	"concord/isa"
	"concord/score"
)

// This file says the chapter once more, over the plain documents: cursors that go over postings place by place, and values that are numbers of any size, taken modulo 2^64, or nil where they are misses.

// modelCursor is chapter 9's cursor over a term's documents.
type modelCursor struct {
	field int
	docs  []int
	pos   [][]int
	place int
	moves int
	asked bool
}

func modelCursorOf(m made, leaf api.Leaf) *modelCursor {
	c := &modelCursor{field: leaf.Field, place: -1}
	for local, x := range m.sheets {
		if pos := x.places[leaf]; len(pos) > 0 {
			c.docs, c.pos = append(c.docs, local), append(c.pos, pos)
		}
	}
	return c
}

// doc is the document at its place.
func (c *modelCursor) doc() int {
	switch c.place {
	case -1:
		return -1
	case len(c.docs):
		return 2147483647
	}
	return c.docs[c.place]
}

// advance goes on place by place, and counts each block that it leaves as one move, and each place in the block come to as one.
func (c *modelCursor) advance(target int) {
	moves, inBlock := 0, 0
	for c.place++; c.place < len(c.docs) && c.docs[c.place] < target; c.place++ {
		if inBlock++; (c.place+1)%16 == 0 {
			moves, inBlock = moves+1, 0
		}
	}
	if c.place == len(c.docs) && inBlock > 0 {
		moves, inBlock = moves+1, 0
	}
	c.moves += moves + inBlock + 1
	c.asked = false
}

func (c *modelCursor) positions() []int {
	if !c.asked {
		c.moves += len(c.pos[c.place])
	}
	c.asked = true
	return c.pos[c.place]
}

// told is what a call of Next answers, and what Counts answers behind it.
type told struct {
	hit                  api.Hit
	ok                   bool
	steps, moves, visits int
}

// model runs a program over a part.
type model struct {
	prog    api.Prog
	code    []api.Instr
	over    made
	cursors []*modelCursor
	place   int
	stack   []*big.Int
	steps   int
	visits  int
	met     kinds // how often an operation came to what
}

func newModel(p api.Prog, over made, met kinds) *model {
	m := &model{prog: p, code: decoded(p), over: over, place: -1, met: met}
	for _, leaf := range p.Cursors {
		m.cursors = append(m.cursors, modelCursorOf(over, leaf))
	}
	return m
}

// run is what the model tells up to its end, and at the end.
func (m *model) run() []told {
	var out []told
	for m.goOn() {
		if score := m.visit(); score != nil {
			hit := api.Hit{Id: m.over.sheets[m.place].id, Score: score.Uint64()}
			out = append(out, told{hit, true, m.steps, m.moves(), m.visits})
		}
	}
	return append(out, told{api.Hit{}, false, m.steps, m.moves(), m.visits})
}

func (m *model) moves() int {
	sum := 0
	for _, c := range m.cursors {
		sum += c.moves
	}
	return sum
}

// goOn goes on to the next document; false, if there is none.
func (m *model) goOn() bool {
	if m.prog.All {
		for m.place++; m.place < len(m.over.sheets); m.place++ {
			if !m.over.sheets[m.place].dead {
				return true
			}
		}
		return false
	}
	for {
		least := 2147483647
		for _, i := range m.prog.Drive {
			if c := m.cursors[i]; c.doc() < m.place+1 {
				c.advance(m.place + 1)
			}
			least = min(least, m.cursors[i].doc())
		}
		if least == 2147483647 {
			return false
		}
		m.place = least
		m.met.note("a dead one drives", m.over.sheets[least].dead)
		if !m.over.sheets[least].dead {
			return true
		}
	}
}

// visit runs the code: nil is a miss.
func (m *model) visit() *big.Int {
	m.visits++
	m.stack = nil
	for at := 0; ; at++ {
		in := m.code[at]
		name, _ := isa.Name(in.Op)
		m.steps++
		switch name {
		case "end":
			m.note(name, m.peek() != nil)
			return m.peek()
		case "miss", "hit":
			skips := (m.peek() != nil) == (name == "hit")
			if skips {
				at += int(in.A)
			}
			m.note(name, skips)
			continue
		}
		var v *big.Int
		switch name {
		case "none", "all", "has", "term", "phrase":
			v = m.leaf(name, in)
		case "not", "scale", "fix":
			v = one(name, m.take(), in.A)
		case "least":
			v = m.least(in)
		default:
			y := m.take()
			v = two(name, m.take(), y)
		}
		m.note(name, v != nil)
		m.stack = append(m.stack, v)
	}
}

func (m *model) note(name string, came bool) {
	m.met.note(name, came)
	m.met.note("no "+name, !came)
}

func (m *model) peek() *big.Int { return m.stack[len(m.stack)-1] }

func (m *model) take() *big.Int {
	v := m.peek()
	m.stack = m.stack[:len(m.stack)-1]
	return v
}

func number(n uint64) *big.Int { return new(big.Int).SetUint64(n) }

var words = new(big.Int).Lsh(big.NewInt(1), 64)

func sum(values ...*big.Int) *big.Int {
	out := new(big.Int)
	for _, v := range values {
		if v != nil {
			out.Add(out, v)
		}
	}
	return out.Mod(out, words)
}

func product(a, b uint64) *big.Int {
	out := new(big.Int).Mul(number(a), number(b))
	return out.Mod(out, words)
}

func only(v *big.Int, hit bool) *big.Int {
	if !hit {
		return nil
	}
	return v
}

// one is what an operation makes of one value.
func one(name string, x *big.Int, a uint64) *big.Int {
	switch {
	case name == "not":
		return only(new(big.Int), x == nil)
	case x == nil:
		return nil
	case name == "scale":
		return product(a, x.Uint64())
	}
	return product(a, 262144)
}

// two is what an operation makes of two values, y being the one on top.
func two(name string, x, y *big.Int) *big.Int {
	switch name {
	case "and":
		return only(sum(x, y), x != nil && y != nil)
	case "or":
		return only(sum(x, y), x != nil || y != nil)
	case "opt":
		return only(sum(x, y), x != nil)
	case "except":
		return only(x, y == nil)
	}
	if x == nil || y != nil && x.Cmp(y) < 0 {
		return y
	}
	return x
}

func (m *model) least(in api.Instr) *big.Int {
	var hits []*big.Int
	for range in.A {
		if x := m.take(); x != nil {
			hits = append(hits, x)
		}
	}
	return only(sum(hits...), uint64(len(hits)) >= in.B)
}

// leaf is the value that an operation puts which takes none.
func (m *model) leaf(name string, in api.Instr) *big.Int {
	here := m.over.sheets[m.place]
	switch name {
	case "all":
		return number(262144)
	case "has":
		return only(number(262144), here.lengths[in.A] > 0)
	case "term":
		c := m.cursors[in.A]
		if !m.stands(c) {
			return nil
		}
		return m.scored(len(here.places[m.prog.Cursors[in.A]]), c.field, in.B)
	case "phrase":
		return m.phrase(in)
	}
	return nil
}

// stands takes a cursor on to the document, and tells whether it stands there.
func (m *model) stands(c *modelCursor) bool {
	switch {
	case c.doc() == 2147483647:
		m.met.note("at its end", true)
	case c.doc() < m.place:
		m.met.note("behind", true)
	case c.doc() == m.place:
		m.met.note("at the document", true)
	default:
		m.met.note("ahead", true)
	}
	if c.doc() < m.place {
		c.advance(m.place)
	}
	return c.doc() == m.place
}

func (m *model) phrase(in api.Instr) *big.Int {
	near := m.prog.Nears[in.A]
	for i, number := range near.Cursors {
		if !m.stands(m.cursors[number]) {
			m.met.note("the first elsewhere", i == 0 && len(near.Cursors) > 1)
			m.met.note("a middle one elsewhere", i > 0 && i < len(near.Cursors)-1)
			m.met.note("the last elsewhere", i > 0 && i == len(near.Cursors)-1)
			return nil
		}
	}
	var lists [][]int
	for _, number := range near.Cursors {
		lists = append(lists, m.cursors[number].positions())
	}
	freq := cursor.PhraseFreq(lists, near.Offs, near.Slop)
	m.met.note("freq 0", freq == 0)
	m.met.note("one cursor twice", freq > 0 && len(slices.Compact(slices.Sorted(slices.Values(near.Cursors)))) < len(near.Cursors))
	if freq == 0 {
		return nil
	}
	return m.scored(freq, m.cursors[near.Cursors[0]].field, in.B)
}

func (m *model) scored(freq, field int, weight uint64) *big.Int {
	return product(weight, score.Sat(freq, m.over.sheets[m.place].lengths[field], m.prog.Avgs[field]))
}
