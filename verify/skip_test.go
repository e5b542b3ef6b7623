package verify_test

import (
	"math"
	"testing"

	"concord/api"
)

// P21.1: how far a skip may go, from each place of programs of each length: to the next instruction, to the last one, and not beside it.
func TestSkipsAreThere(t *testing.T) {
	for _, op := range []int{api.OpMiss, api.OpHit} {
		for ahead := range 6 {
			for behind := range 6 {
				for _, a := range operands(20) {
					list := append([]api.Instr{{Op: api.OpAll}}, repeated(api.Instr{Op: api.OpNot}, ahead)...)
					list = append(list, api.Instr{Op: op, A: a})
					list = append(list, repeated(api.Instr{Op: api.OpNot}, behind)...)
					if p := oneMore(1, list...); a <= uint64(behind) {
						wantKept(t, "an instruction", p)
					} else {
						wantBroken(t, "no instruction", p, 6)
					}
				}
			}
		}
	}
}

// P21.1: skips whose places would be those of instructions if numbers went round.
func TestSkipsThatGoRound(t *testing.T) {
	for _, op := range []int{api.OpMiss, api.OpHit} {
		for back := range uint64(30) {
			for _, high := range []uint64{0, 1 << 63, 1 << 32} {
				list := append([]api.Instr{{Op: api.OpNone}}, repeated(api.Instr{Op: api.OpScale, A: 2}, 9)...)
				list = append(list, api.Instr{Op: op, A: high - 1 - back}, api.Instr{Op: api.OpNot})
				wantBroken(t, "a skip that goes round", oneMore(1, list...), 6)
			}
		}
	}
}

// P21.1: skips one over the other, within one another, and to one place, with the heights written out; nil, if they don't agree.
func TestSkips(t *testing.T) {
	rows := map[string][]int{
		"all; miss 0; end":                                           {0, 1, 1},
		"all; hit 0; miss 0; end":                                    {0, 1, 1, 1},
		"all; hit 1; miss 0; end":                                    {0, 1, 1, 1},
		"all; miss 2; miss 1; not; end":                              {0, 1, 1, 1, 1},
		"all; miss 2; miss 2; not; not; end":                         {0, 1, 1, 1, 1, 1},
		"all; miss 3; hit 2; miss 1; not; end":                       {0, 1, 1, 1, 1, 1},
		"all; miss 1; hit 1; miss 1; not; end":                       {0, 1, 1, 1, 1, 1},
		"all; miss 5; all; and; miss 2; all; except; end":            {0, 1, 1, 2, 1, 1, 2, 1},
		"all; miss 2; all; and; miss 2; all; and; end":               {0, 1, 1, 2, 1, 1, 2, 1},
		"all; all; miss 2; all; or; and; end":                        {0, 1, 2, 2, 3, 2, 1},
		"all; miss 6; all; hit 2; all; or; and; end":                 nil,
		"all; miss 5; all; hit 2; all; or; and; end":                 {0, 1, 1, 2, 2, 3, 2, 1},
		"all; miss 4; all; hit 2; all; or; and; end":                 nil,
		"all; all; hit 0; all; least 3 2; end":                       {0, 1, 2, 2, 3, 1},
		"all; hit 3; all; all; least 3 1; end":                       {0, 1, 1, 2, 3, 1},
		"all; hit 2; all; all; least 3 1; end":                       nil,
		"all; all; miss 1; and; end":                                 nil,
		"all; all; miss 0; and; end":                                 {0, 1, 2, 2, 1},
		"all; miss 1; all; and; end":                                 nil,
		"all; miss 3; all; hit 1; and; end":                          nil,
		"all; miss 3; all; hit 0; and; end":                          {0, 1, 1, 2, 2, 1},
		"all; all; all; hit 1; and; and; end":                        nil,
		"all; all; hit 2; all; and; miss 1; all; least 3 1; end":     nil,
		"all; miss 1; none; or; end":                                 nil,
		"all; all; miss 2; and; all; and; end":                       {0, 1, 2, 2, 1, 2, 1},
		"all; all; miss 3; and; all; hit 0; and; end":                {0, 1, 2, 2, 1, 2, 2, 1},
		"all; all; miss 3; and; all; hit 1; and; end":                nil,
		"all; all; and; hit 7; all; all; and; and; miss 2; not; end": nil,
		"all; all; and; hit 6; all; all; and; and; miss 1; not; end": {0, 1, 2, 1, 1, 2, 3, 2, 1, 1, 1},
	}
	for text, heights := range rows {
		p := plain(text)
		if heights != nil {
			wantGood(t, p, heights)
		} else {
			wantBad(t, p)
		}
		hold(t, p)
	}
}

// P21.1: a height that doesn't agree, by each skip alone: two ways come to one place, or three.
func TestHeightsThatDoNotAgree(t *testing.T) {
	for _, text := range []string{
		"all; miss 1; all; and; end", "all; hit 1; all; and; end", "all; miss 1; all; or; all; and; end",
		"all; all; miss 2; all; and; not; end", "all; all; hit 1; and; not; end", "all; miss 2; all; all; and; and; end",
		"all; miss 2; all; hit 0; and; end", "all; miss 3; all; hit 1; not; and; end", "all; miss 1; all; miss 0; and; end",
		"all; hit 5; miss 3; not; not; all; and; end", "all; hit 4; miss 4; not; not; all; and; end", "all; hit 3; miss 3; not; not; all; and; end",
	} {
		wantBroken(t, text, plain(text), 7)
	}
}

// P21.1: every way of putting two skips into a program with heights of all sorts.
func TestTwoSkips(t *testing.T) {
	base := decoded(plain("all; all; all; and; all; or; not; least 2 1; all; max; end"))
	good := 0
	for first := 1; first < len(base); first++ {
		for second := first; second < len(base); second++ {
			for a := range uint64(len(base) + 3) {
				for b := range uint64(len(base) + 3) {
					list := append(append(append([]api.Instr{}, base[:first]...), api.Instr{Op: api.OpMiss, A: a}), base[first:second]...)
					list = append(append(list, api.Instr{Op: api.OpHit, A: b}), base[second:]...)
					p := plain("")
					p.Code = encoded(list)
					if hold(t, p) == nil {
						good++
					}
				}
			}
		}
	}
	if good < 300 {
		t.Errorf("only %d are good", good)
	}
}

// P21.1: very many instructions, very high stacks, and very many skips to one place, over one another and within one another.
func TestLong(t *testing.T) {
	const n = 1 << 18
	all, and, not, end := api.Instr{Op: api.OpAll}, api.Instr{Op: api.OpAnd}, api.Instr{Op: api.OpNot}, api.Instr{Op: api.OpEnd}
	high := repeated(all, n)
	up := make([]int, n+1)
	for i := range up {
		up[i] = i
	}
	wantGood(t, oneMore(1, append(high, api.Instr{Op: api.OpLeast, A: n, B: n})...), append(up, 1))
	wantBad(t, oneMore(1, append(high, api.Instr{Op: api.OpLeast, A: n + 1, B: 1})...))
	wantBad(t, oneMore(1, append(high, api.Instr{Op: api.OpLeast, A: n - 1, B: 1})...))

	long, level := []api.Instr{all}, []int{0}
	for i := range n {
		long = append(long, api.Instr{Op: api.OpMiss + i%2, A: uint64(n - 1 - i)})
	}
	for range n + 1 {
		level = append(level, 1)
	}
	wantGood(t, oneMore(1, long...), level)
	wantBad(t, oneMore(1, append(long, all)...))
	for i := range n {
		long[i+1].A = min(uint64(i%1000), uint64(n-1-i))
	}
	wantGood(t, oneMore(1, long...), level)
	long[n].A = 1
	wantBad(t, oneMore(1, long...))
	long[n].A = math.MaxUint64
	wantBad(t, oneMore(1, long...))

	var tooLow []api.Instr
	tooLow = append(tooLow, all)
	tooLow = append(tooLow, repeated(not, n)...)
	wantGood(t, oneMore(1, tooLow...), level)
	wantBad(t, oneMore(1, append(tooLow, and)...))
	wantBad(t, oneMore(1, append(tooLow, end)...))
	wantBad(t, oneMore(1, append([]api.Instr{all, end}, tooLow...)...))
}

// P21.1: very many cursors and phrases, good but for the last one.
func TestLongTables(t *testing.T) {
	const n = 1 << 16
	p := oneMore(1, api.Instr{Op: api.OpTerm, A: n}, api.Instr{Op: api.OpPhrase, A: n}, api.Instr{Op: api.OpExcept})
	near := api.Near{}
	for i := range n {
		p.Cursors = append(p.Cursors, api.Leaf{Term: "b"})
		p.Nears = append(p.Nears, api.Near{Cursors: []int{i + 1}, Offs: []int{i}})
		p.Drive = append(p.Drive, i)
		near.Cursors, near.Offs = append(near.Cursors, n-i), append(near.Offs, i)
	}
	heights := []int{0, 1, 2, 1}
	wantGood(t, p, heights)
	p.Nears[n] = near
	wantGood(t, p, heights)
	near.Offs[n-1] = -1
	wantBad(t, p)
	near.Offs[n-1], near.Cursors[n-1] = 0, n+1
	wantBad(t, p)
	near.Cursors[n-1] = 0
	wantGood(t, p, heights)
	p.Drive[n-1] = n + 1
	wantBad(t, p)
	p.Drive[n-1] = n
	wantGood(t, p, heights)
	p.Cursors[n].Field = 1
	wantBad(t, p)
}
