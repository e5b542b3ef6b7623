package compile_test

import (
	"fmt"
	"slices"
	"strings"

	"concord/api"
	"concord/isa"
)

// step is an instruction; that of a phrase bears it, for its number is known only when all stand in their order.
type step struct {
	api.Instr
	phrase *api.Query
}

// one is a code of one instruction.
func one(op int, a, b uint64) []step { return []step{{Instr: api.Instr{Op: op, A: a, B: b}}} }

// modelProgram is the program of a good plan: the model puts codes together out of codes, from the leaves up.
func modelProgram(pl api.Plan, st api.Stats) api.Prog {
	p := api.Prog{Cursors: modelCursors(pl), All: pl.All}
	for _, sum := range st.Sums {
		avg := 0
		if st.Docs >= 1 && sum >= 1 {
			avg = sum / st.Docs
		}
		p.Avgs = append(p.Avgs, avg)
	}
	for i, leaf := range p.Cursors {
		if slices.Contains(pl.Drive, leaf) {
			p.Drive = append(p.Drive, i)
		}
	}
	var code []api.Instr
	for _, s := range slices.Concat(modelCode(pl.Root, p.Cursors, false), one(api.OpEnd, 0, 0)) {
		if s.phrase != nil {
			s.A = uint64(len(p.Nears))
			near := api.Near{Offs: s.phrase.Offs, Slop: s.phrase.N}
			for _, text := range s.phrase.Terms {
				near.Cursors = append(near.Cursors, slices.Index(p.Cursors, api.Leaf{Field: s.phrase.Field, Term: text}))
			}
			p.Nears = append(p.Nears, near)
		}
		code = append(code, s.Instr)
	}
	p.Code, _ = isa.Encode(code)
	return p
}

// modelCursors are the leaves of a plan, each once.
func modelCursors(pl api.Plan) []api.Leaf {
	met := map[string]api.Leaf{}
	note := func(leaf api.Leaf) { met[fmt.Sprintf("%02d%s", leaf.Field, leaf.Term)] = leaf }
	for _, leaf := range pl.Drive {
		note(leaf)
	}
	work := []api.Query{pl.Root}
	for len(work) > 0 {
		q := work[0]
		work = append(work[1:], q.Kids...)
		switch q.Kind {
		case api.QTerm:
			note(api.Leaf{Field: q.Field, Term: q.Text})
		case api.QPhrase:
			for _, text := range q.Terms {
				note(api.Leaf{Field: q.Field, Term: text})
			}
		}
	}
	// Two digits ahead of the term make one text of both.
	var names []string
	for name := range met {
		names = append(names, name)
	}
	slices.SortFunc(names, strings.Compare)
	var out []api.Leaf
	for _, name := range names {
		out = append(out, met[name])
	}
	return out
}

// modelCode is one of the two codes of a query, the bare one or the one in full.
func modelCode(q api.Query, cursors []api.Leaf, bare bool) []step {
	weight := q.Weight
	if bare {
		weight = 0
	}
	kid := func(i int, bare bool) []step { return modelCode(q.Kids[i], cursors, bare) }
	switch q.Kind {
	case api.QAll:
		return one(api.OpAll, 0, 0)
	case api.QHas:
		return one(api.OpHas, uint64(q.Field), 0)
	case api.QTerm:
		return one(api.OpTerm, uint64(slices.Index(cursors, api.Leaf{Field: q.Field, Term: q.Text})), weight)
	case api.QPhrase:
		return []step{{api.Instr{Op: api.OpPhrase, B: weight}, &q}}
	case api.QBoost:
		if bare {
			return kid(0, true)
		}
		return slices.Concat(kid(0, false), one(api.OpScale, q.Weight, 0))
	case api.QConst:
		if bare {
			return kid(0, true)
		}
		return slices.Concat(kid(0, true), one(api.OpFix, q.Weight, 0))
	case api.QNot:
		return slices.Concat(kid(0, true), one(api.OpNot, 0, 0))
	case api.QMax:
		return modelEither(modelCodes(q.Kids, cursors, bare), api.OpMax, bare)
	case api.QList:
		return modelList(q, cursors, bare)
	}
	return one(api.OpNone, 0, 0)
}

func modelCodes(kids []api.Query, cursors []api.Leaf, bare bool) [][]step {
	var out [][]step
	for _, kid := range kids {
		out = append(out, modelCode(kid, cursors, bare))
	}
	return out
}

// chained are codes one behind the other, ahead of each but the first a skip to the end of them all.
func chained(op int, codes [][]step) []step {
	last := len(codes) - 1
	out := codes[last]
	for i := last - 1; i >= 0; i-- {
		out = slices.Concat(codes[i], one(op, uint64(len(out)), 0), out)
	}
	return out
}

// modelEither are the codes of kids of which one has to match.
func modelEither(codes [][]step, join int, bare bool) []step {
	for i := 1; i < len(codes); i++ {
		codes[i] = slices.Concat(codes[i], one(join, 0, 0))
	}
	if bare {
		return chained(api.OpHit, codes)
	}
	return slices.Concat(codes...)
}

// kidsThat are the kids of a list that occur so.
func kidsThat(q api.Query, occur int) []api.Query {
	var kids []api.Query
	for i, kid := range q.Kids {
		if q.Occur[i] == occur {
			kids = append(kids, kid)
		}
	}
	return kids
}

func modelNeed(q api.Query) int {
	if q.N > 0 {
		return q.N
	}
	if len(kidsThat(q, api.Must)) == 0 {
		return 1
	}
	return 0
}

// modelList is the code of a QList: its pieces, ahead of each but the first one a skip to the end.
func modelList(q api.Query, cursors []api.Leaf, bare bool) []step {
	must, some, nots := kidsThat(q, api.Must), kidsThat(q, api.Should), kidsThat(q, api.MustNot)
	need := modelNeed(q)
	if need > len(some) {
		return one(api.OpNone, 0, 0)
	}
	pieces := modelCodes(must, cursors, bare)
	for i := range pieces {
		if i > 0 {
			pieces[i] = slices.Concat(pieces[i], one(api.OpAnd, 0, 0))
		}
	}
	codes := modelCodes(some, cursors, bare)
	if need >= 1 {
		piece := slices.Concat(slices.Concat(codes...), one(api.OpLeast, uint64(len(some)), uint64(need)))
		if need == 1 {
			piece = modelEither(codes, api.OpOr, bare)
		}
		if len(must) > 0 {
			piece = slices.Concat(piece, one(api.OpAnd, 0, 0))
		}
		pieces = append(pieces, piece)
	}
	for _, code := range modelCodes(nots, cursors, true) {
		pieces = append(pieces, slices.Concat(code, one(api.OpExcept, 0, 0)))
	}
	if need == 0 && len(some) > 0 && !bare {
		var piece []step
		for _, code := range codes {
			piece = slices.Concat(piece, code, one(api.OpOpt, 0, 0))
		}
		pieces = append(pieces, piece)
	}
	return chained(api.OpMiss, pieces)
}
