package verify

import (
	"slices"

	"concord/api"
)

// takes are how many values the operations take from the stack; OpLeast takes as many as its operand says.
// Each of them puts one value: what OpMiss, OpHit and OpEnd put is what they took.
var takes = [...]uint64{
	api.OpEnd:    1,
	api.OpNone:   0,
	api.OpAll:    0,
	api.OpHas:    0,
	api.OpTerm:   0,
	api.OpPhrase: 0,
	api.OpAnd:    2,
	api.OpOr:     2,
	api.OpMax:    2,
	api.OpOpt:    2,
	api.OpExcept: 2,
	api.OpNot:    1,
	api.OpScale:  1,
	api.OpFix:    1,
	api.OpLeast:  0,
	api.OpMiss:   1,
	api.OpHit:    1,
}

// taken is how many values an instruction takes from the stack.
func taken(in api.Instr) uint64 {
	if in.Op == api.OpLeast {
		return in.A
	}
	return takes[in.Op]
}

// endsOnce tells whether the last instruction is an OpEnd, and no other one.
func endsOnce(list []api.Instr) bool {
	end := slices.IndexFunc(list, func(in api.Instr) bool { return in.Op == api.OpEnd })
	return end >= 0 && end == len(list)-1
}

func goodOperands(p api.Prog, list []api.Instr) bool {
	for i, in := range list {
		if !goodOperand(p, in, len(list)-1-i) {
			return false
		}
	}
	return true
}

// goodOperand tells whether what is asked of an instruction's operands holds, with so many instructions behind it.
func goodOperand(p api.Prog, in api.Instr, behind int) bool {
	switch in.Op {
	case api.OpHas:
		return in.A < uint64(len(p.Avgs))
	case api.OpTerm:
		return in.A < uint64(len(p.Cursors))
	case api.OpPhrase:
		return in.A < uint64(len(p.Nears))
	case api.OpLeast:
		return in.B >= 1 && in.B <= in.A
	case api.OpMiss, api.OpHit:
		return in.A < uint64(behind)
	}
	return true
}

// straight is the height ahead of each instruction by the way without skips, which comes to all of them; false, if the stack is too low for one.
func straight(list []api.Instr) ([]int, bool) {
	heights := make([]int, len(list))
	height := 0
	for i, in := range list {
		n := taken(in)
		if n > uint64(height) {
			return nil, false
		}
		heights[i] = height
		height += 1 - int(n)
	}
	return heights, true
}

// skipsAgree tells whether each skip comes to its instruction with the height that the way without skips has there.
func skipsAgree(list []api.Instr, heights []int) bool {
	for i, in := range list {
		if in.Op != api.OpMiss && in.Op != api.OpHit {
			continue
		}
		if heights[i+1+int(in.A)] != heights[i] {
			return false
		}
	}
	return true
}
