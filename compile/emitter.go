package compile

import (
	"slices"

	"concord/api"
	"concord/isa"
)

// code says which of a query's two codes is meant.
type code int

const (
	full code = iota
	bare      // of which counts only whether the query matches
)

// emitter makes a program, which it embeds. The instructions stand apart from it, for how far a skip leads is known only behind what it skips.
type emitter struct {
	api.Prog
	list []api.Instr
}

// program is the program, with the bytes of its instructions.
func (e *emitter) program() api.Prog {
	// Only instructions of the table are put, so that none is refused.
	e.Code, _ = isa.Encode(e.list)
	return e.Prog
}

func (e *emitter) put(in api.Instr) {
	e.list = append(e.list, in)
}

// skip puts a skip that leads nowhere yet, and answers its place.
func (e *emitter) skip(op int) int {
	e.put(api.Instr{Op: op})
	return len(e.list) - 1
}

// land leads the skips at these places to the instruction that is put next.
func (e *emitter) land(skips []int) {
	for _, at := range skips {
		e.list[at].A = uint64(len(e.list) - at - 1)
	}
}

// query puts a query's code.
func (e *emitter) query(q *api.Query, as code) {
	switch q.Kind {
	case api.QNone:
		e.put(api.Instr{Op: api.OpNone})
	case api.QAll:
		e.put(api.Instr{Op: api.OpAll})
	case api.QHas:
		e.put(api.Instr{Op: api.OpHas, A: uint64(q.Field)})
	case api.QTerm:
		e.leaf(api.OpTerm, e.cursorOf(api.Leaf{Field: q.Field, Term: q.Text}), q.Weight, as)
	case api.QPhrase:
		e.leaf(api.OpPhrase, e.putNear(q), q.Weight, as)
	case api.QBoost:
		e.query(&q.Kids[0], as)
		e.factor(api.OpScale, q.Weight, as)
	case api.QConst:
		e.query(&q.Kids[0], bare)
		e.factor(api.OpFix, q.Weight, as)
	case api.QNot:
		e.query(&q.Kids[0], bare)
		e.put(api.Instr{Op: api.OpNot})
	case api.QMax:
		e.anyOf(pointers(q.Kids), api.OpMax, as)
	case api.QList:
		e.queryList(q, as)
	}
}

// leaf puts what asks for a cursor or a phrase by its number; the weight is told where a score counts.
func (e *emitter) leaf(op, number int, weight uint64, as code) {
	if as == bare {
		weight = 0
	}
	e.put(api.Instr{Op: op, A: uint64(number), B: weight})
}

// factor puts what makes another score, where a score counts.
func (e *emitter) factor(op int, weight uint64, as code) {
	if as == full {
		e.put(api.Instr{Op: op, A: weight})
	}
}

// anyOf puts the code of kids of which one has to match. In the bare code those behind the first that matches are skipped.
func (e *emitter) anyOf(kids []*api.Query, join int, as code) {
	var skips []int
	for i, kid := range kids {
		if i > 0 && as == bare {
			skips = append(skips, e.skip(api.OpHit))
		}
		e.query(kid, as)
		if i > 0 {
			e.put(api.Instr{Op: join})
		}
	}
	e.land(skips)
}

// leastOf puts the code of kids of which so many have to match, one at least.
func (e *emitter) leastOf(kids []*api.Query, need int, as code) {
	if need == 1 {
		e.anyOf(kids, api.OpOr, as)
		return
	}
	for _, kid := range kids {
		e.query(kid, as)
	}
	e.put(api.Instr{Op: api.OpLeast, A: uint64(len(kids)), B: uint64(need)})
}

// queryList puts a QList's code. Wherever a miss is the list's answer already, the rest of its code is skipped.
func (e *emitter) queryList(q *api.Query, as code) {
	musts, shoulds := kidsThat(q, api.Must), kidsThat(q, api.Should)
	need := needOf(q)
	if need > len(shoulds) {
		e.put(api.Instr{Op: api.OpNone})
		return
	}
	var skips []int
	leaveOnMiss := func() { skips = append(skips, e.skip(api.OpMiss)) }
	for i, kid := range musts {
		if i > 0 {
			leaveOnMiss()
		}
		e.query(kid, as)
		if i > 0 {
			e.put(api.Instr{Op: api.OpAnd})
		}
	}
	switch {
	case need > 0 && len(musts) > 0:
		leaveOnMiss()
		e.leastOf(shoulds, need, as)
		e.put(api.Instr{Op: api.OpAnd})
	case need > 0:
		e.leastOf(shoulds, need, as)
	}
	for _, kid := range kidsThat(q, api.MustNot) {
		leaveOnMiss()
		e.query(kid, bare)
		e.put(api.Instr{Op: api.OpExcept})
	}
	if need == 0 && len(shoulds) > 0 && as == full {
		leaveOnMiss()
		for _, kid := range shoulds {
			e.query(kid, full)
			e.put(api.Instr{Op: api.OpOpt})
		}
	}
	e.land(skips)
}

// needOf is how many shoulds of a QList have to match at least.
func needOf(q *api.Query) int {
	if q.N == 0 && !slices.Contains(q.Occur, api.Must) {
		return 1
	}
	return q.N
}

// kidsThat are the kids of a QList that occur so.
func kidsThat(q *api.Query, occur int) []*api.Query {
	var kids []*api.Query
	for i, kid := range pointers(q.Kids) {
		if q.Occur[i] == occur {
			kids = append(kids, kid)
		}
	}
	return kids
}

func pointers(kids []api.Query) []*api.Query {
	list := make([]*api.Query, len(kids))
	for i := range kids {
		list[i] = &kids[i]
	}
	return list
}
