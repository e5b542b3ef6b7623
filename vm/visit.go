package vm

import "concord/api"

// goOn takes the place on to the next document that is visited; false, if there is none. What drives may be dead: then it goes on from there.
func (m *Machine) goOn() bool {
	if m.all {
		next, ok := m.part.NextAlive(m.place + 1)
		if ok {
			m.place = next
		}
		return ok
	}
again:
	least := api.EndDoc
	for _, l := range m.drive {
		// A cursor that stands so far already stays there.
		least = min(least, l.Advance(m.place+1))
	}
	if least == api.EndDoc {
		return false
	}
	m.place = least
	if !m.part.Alive(least) {
		goto again
	}
	return true
}

// visit runs the code once on the document at the place, and answers the document's hit; false, if it is none.
func (m *Machine) visit() (api.Hit, bool) {
	m.visits++
	at := 0
step:
	in := m.code[at]
	at++
	m.steps++
	switch in.Op {
	case api.OpEnd:
		goto end
	case api.OpMiss:
		if !m.top().hit {
			goto skip
		}
	case api.OpHit:
		if m.top().hit {
			goto skip
		}
	default:
		m.table[in.Op](m, in)
	}
	goto step
skip:
	// It leads to an instruction in a good program, so that the operand is no more than an int holds.
	at += int(in.A)
	goto step
end:
	answer := m.take()
	if !answer.hit {
		return api.Hit{}, false
	}
	id, _ := m.part.Id(m.place)
	return api.Hit{Id: id, Score: answer.score}, true
}
