package verify_test

import (
	"math/big"
	"slices"

	"concord/api"
	"concord/isa"
)

// The model goes by the chapter rule by rule, with numbers of any size, and takes every way through the code.

// model is the numbers of the chapter's rules that a program breaks, and if there are none the heights ahead of its instructions.
func model(p api.Prog) (broken []int, heights []int) {
	list, err := isa.Decode(p.Code)
	rules := []bool{modelAvgs(p), modelCursors(p), modelNears(p), modelDrive(p), err == nil && modelEnds(list), true, true}
	if err == nil {
		rules[5] = modelOperands(p, list)
		heights, rules[6] = modelHeights(list)
	}
	for i, holds := range rules {
		if !holds {
			broken = append(broken, i+1)
		}
	}
	if broken != nil {
		return broken, nil
	}
	return nil, heights
}

func modelAvgs(p api.Prog) bool {
	return len(p.Avgs) > 0 && len(p.Avgs) < 17 && !slices.ContainsFunc(p.Avgs, func(n int) bool { return n < 0 })
}

func modelCursors(p api.Prog) bool {
	return !slices.ContainsFunc(p.Cursors, func(c api.Leaf) bool {
		return c.Field < 0 || c.Field >= len(p.Avgs) || len(c.Term) > 64
	})
}

func modelNears(p api.Prog) bool {
	good := func(n api.Near) bool {
		fields := map[int]int{}
		for _, c := range n.Cursors {
			if c < 0 || c >= len(p.Cursors) {
				return false
			}
			fields[p.Cursors[c].Field]++
		}
		for _, v := range append([]int{n.Slop}, n.Offs...) {
			if v < 0 || v > 2147483646 {
				return false
			}
		}
		return len(fields) == 1 && len(n.Offs) == len(n.Cursors)
	}
	return !slices.ContainsFunc(p.Nears, func(n api.Near) bool { return !good(n) })
}

func modelDrive(p api.Prog) bool {
	for i, c := range p.Drive {
		if p.All || c < 0 || c >= len(p.Cursors) || i > 0 && c <= p.Drive[i-1] {
			return false
		}
	}
	return true
}

func modelEnds(list []api.Instr) bool {
	ends := 0
	for _, in := range list {
		if in.Op == api.OpEnd {
			ends++
		}
	}
	return ends == 1 && list[len(list)-1].Op == api.OpEnd
}

func number(n uint64) *big.Int { return new(big.Int).SetUint64(n) }

// target is where the instruction number i goes on if it skips; false, if there is no instruction.
func target(list []api.Instr, i int) (int, bool) {
	to := new(big.Int).Add(number(list[i].A), big.NewInt(int64(i)+1))
	if to.Cmp(big.NewInt(int64(len(list)))) >= 0 {
		return 0, false
	}
	return int(to.Int64()), true
}

func isSkip(in api.Instr) bool { return in.Op == api.OpMiss || in.Op == api.OpHit }

func modelOperands(p api.Prog, list []api.Instr) bool {
	below := func(n uint64, size int) bool { return number(n).Cmp(big.NewInt(int64(size))) < 0 }
	for i, in := range list {
		holds := true
		switch in.Op {
		case api.OpHas:
			holds = below(in.A, len(p.Avgs))
		case api.OpTerm:
			holds = below(in.A, len(p.Cursors))
		case api.OpPhrase:
			holds = below(in.A, len(p.Nears))
		case api.OpLeast:
			holds = in.A > 0 && in.B > 0 && number(in.B).Cmp(number(in.A)) <= 0
		case api.OpMiss, api.OpHit:
			_, holds = target(list, i)
		}
		if !holds {
			return false
		}
	}
	return true
}

// effect is the rows of the chapter's table: what must be on the stack at least, and how much more is there behind the instruction.
func effect(in api.Instr) (least, more *big.Int) {
	switch in.Op {
	case api.OpNone, api.OpAll, api.OpHas, api.OpTerm, api.OpPhrase:
		return big.NewInt(0), big.NewInt(1)
	case api.OpAnd, api.OpOr, api.OpMax, api.OpOpt, api.OpExcept:
		return big.NewInt(2), big.NewInt(-1)
	case api.OpNot, api.OpScale, api.OpFix, api.OpMiss, api.OpHit:
		return big.NewInt(1), big.NewInt(0)
	case api.OpLeast:
		return number(in.A), new(big.Int).Sub(big.NewInt(1), number(in.A))
	}
	panic("no such operation")
}

// modelHeights are the heights by all ways from the first instruction on; false, if the rule 7 is broken.
func modelHeights(list []api.Instr) ([]int, bool) {
	type state struct{ at, height int }
	seen := make([][]int, len(list))
	waiting := []state{{0, 0}}
	for len(waiting) > 0 {
		now := waiting[len(waiting)-1]
		waiting = waiting[:len(waiting)-1]
		if now.at >= len(list) || slices.Contains(seen[now.at], now.height) {
			continue
		}
		seen[now.at] = append(seen[now.at], now.height)
		in := list[now.at]
		if len(seen[now.at]) > 1 || in.Op == api.OpEnd && now.height != 1 {
			return nil, false
		}
		if in.Op == api.OpEnd {
			continue
		}
		least, more := effect(in)
		if least.Cmp(big.NewInt(int64(now.height))) > 0 {
			return nil, false
		}
		height := now.height + int(more.Int64())
		waiting = append(waiting, state{now.at + 1, height})
		if to, ok := target(list, now.at); ok && isSkip(in) {
			waiting = append(waiting, state{to, height})
		}
	}
	heights := make([]int, len(list))
	for i, at := range seen {
		if len(at) == 1 {
			heights[i] = at[0]
		}
	}
	return heights, true
}
