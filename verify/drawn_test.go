package verify_test

import (
	"math"
	"slices"
	"testing"

	"concord/api"
	"concord/isa"
)

// P21.1: drawn programs are good, with the model's heights.
func TestDrawnGood(t *testing.T) {
	for _, p := range drawn(210) {
		wantKept(t, "drawn", p)
	}
}

// P21.1: all rows of few instructions ahead of an end, over a program of one cursor and one phrase.
func TestAllShortRows(t *testing.T) {
	all := []string{"end", "none", "has 0", "has 1", "term 0 1", "term 1 0", "phrase 0 1", "phrase 1 0", "and", "opt", "not", "fix 0", "least 0 0", "least 1 1", "least 1 2", "least 2 1", "least 3 3", "miss 0", "miss 1", "hit 1", "hit 2"}
	few := []string{"all", "or", "scale 1", "least 2 2", "miss 0", "hit 1", "miss 2"}
	if good := holdRows(t, all, 3); good < 20 {
		t.Errorf("only %d are good", good)
	}
	if good := holdRows(t, few, 6); good < 200 {
		t.Errorf("only %d are good", good)
	}
}

// holdRows holds all rows of up to so many of these instructions, with an end behind them, against the model, and answers how many are good.
func holdRows(t *testing.T, texts []string, most int) int {
	t.Helper()
	var one []api.Instr
	for _, text := range texts {
		one = append(one, decoded(api.Prog{Code: code(text)})...)
	}
	good := 0
	rows := [][]api.Instr{nil}
	for range most + 1 {
		var longer [][]api.Instr
		for _, row := range rows {
			if hold(t, oneMore(1, row...)) == nil {
				good++
			}
			for _, in := range one {
				longer = append(longer, append(slices.Clone(row), in))
			}
		}
		rows = longer
	}
	return good
}

// wrong are numbers that stand for an int where they often may not.
var wrong = []int{math.MinInt, -1, 0, 1, 2, 3, api.MaxFields, 2147483646, 2147483647, 1 << 32, math.MaxInt}

// spoilList turns, leaves out or doubles one number of a list, if it has one, or puts one behind it.
func (m maker) spoilList(list []int) []int {
	list = slices.Clone(list)
	v := wrong[m.Intn(len(wrong))]
	if len(list) == 0 || m.Intn(4) == 0 {
		return append(list, v)
	}
	i := m.Intn(len(list))
	switch m.Intn(3) {
	case 0:
		list[i] = v
		return list
	case 1:
		return slices.Delete(list, i, i+1)
	}
	return slices.Insert(list, i, list[i])
}

// spoilTables turns one thing in the tables of a program.
func (m maker) spoilTables(p api.Prog) api.Prog {
	switch m.Intn(4) {
	case 0:
		p.Avgs = m.spoilList(p.Avgs)
	case 1:
		p.Drive = m.spoilList(p.Drive)
	case 2:
		p.All = !p.All
	default:
		p = m.spoilLeaves(p)
	}
	return p
}

// spoilLeaves turns one thing in a cursor or a phrase of a program.
func (m maker) spoilLeaves(p api.Prog) api.Prog {
	p.Cursors, p.Nears = slices.Clone(p.Cursors), slices.Clone(p.Nears)
	if len(p.Nears) > 0 && m.Intn(2) == 0 {
		n := &p.Nears[m.Intn(len(p.Nears))]
		switch m.Intn(3) {
		case 0:
			n.Cursors = m.spoilList(n.Cursors)
		case 1:
			n.Offs = m.spoilList(n.Offs)
		default:
			n.Slop = wrong[m.Intn(len(wrong))]
		}
		return p
	}
	if len(p.Cursors) == 0 {
		return p
	}
	i := m.Intn(len(p.Cursors))
	switch m.Intn(3) {
	case 0:
		p.Cursors[i].Field = wrong[m.Intn(len(wrong))]
	case 1:
		p.Cursors[i].Term += "behind"
	default:
		p.Cursors = slices.Delete(p.Cursors, i, i+1)
	}
	return p
}

// spoilCode turns, moves, doubles or leaves out one instruction of a program, or turns one byte of its code.
func (m maker) spoilCode(p api.Prog) api.Prog {
	list := decoded(p)
	i, k := m.Intn(len(list)), m.Intn(len(list))
	switch m.Intn(6) {
	case 0:
		p.Code = slices.Clone(p.Code)
		p.Code[m.Intn(len(p.Code))] = byte(m.Intn(256))
		return p
	case 1:
		list = slices.Delete(list, i, i+1)
	case 2:
		list = slices.Insert(list, i, list[k])
	case 3:
		list[i], list[k] = list[k], list[i]
	case 4:
		list[i] = m.stepped(list[i])
	default:
		list[i] = m.instruction()
	}
	p.Code = encoded(list)
	return p
}

// stepped turns the operands of an instruction by 1.
func (m maker) stepped(in api.Instr) api.Instr {
	n, _ := isa.Args(in.Op)
	for _, to := range []*uint64{&in.A, &in.B}[:n] {
		*to += uint64(m.Intn(3)) - 1
	}
	return in
}

// instruction is one of any kind, with any operands.
func (m maker) instruction() api.Instr {
	in := api.Instr{Op: m.Intn(api.OpHit + 1)}
	n, _ := isa.Args(in.Op)
	for _, to := range []*uint64{&in.A, &in.B}[:n] {
		if *to = uint64(m.Intn(4)); m.Intn(4) == 0 {
			*to = m.operand()
		}
	}
	return in
}

// hasInstructions tells whether a program's code is the bytes of instructions, of one at least.
func hasInstructions(p api.Prog) bool {
	list, err := isa.Decode(p.Code)
	return err == nil && len(list) > 0
}

// P21.1: good programs with one thing turned, or two.
func TestSpoilt(t *testing.T) {
	m := newMaker(211)
	times := make([]int, 8)
	for range 60000 {
		p := m.program(1 + m.Intn(14))
		for range 1 + m.Intn(2) {
			if m.Intn(2) == 0 || !hasInstructions(p) {
				p = m.spoilTables(p)
			} else {
				p = m.spoilCode(p)
			}
		}
		broken := hold(t, p)
		if broken == nil {
			times[0]++
		} else if len(broken) == 1 {
			times[broken[0]]++
		}
	}
	for rule, n := range times {
		if n < 500 {
			t.Errorf("only %d broke the rule %d alone (0: none)", n, rule)
		}
	}
}

// P21.1: long programs with one thing turned.
func TestSpoiltLong(t *testing.T) {
	m := newMaker(212)
	for range 1500 {
		p := m.program(300)
		hold(t, m.spoilTables(p))
		hold(t, m.spoilCode(p))
	}
}

// P21.1: programs of any instructions, and any bytes.
func TestAnyCode(t *testing.T) {
	m := newMaker(213)
	for range 30000 {
		p := m.further(api.Prog{Avgs: []int{0}})
		var list []api.Instr
		for range m.Intn(8) {
			list = append(list, m.instruction())
		}
		p.Code = encoded(append(list, api.Instr{Op: api.OpEnd}))
		hold(t, p)
		p.Code = nil
		for range m.Intn(8) {
			p.Code = append(p.Code, byte(m.Intn(18)))
		}
		hold(t, p)
	}
}

// FuzzCode holds any bytes as the code of a program of two fields against the model.
func FuzzCode(f *testing.F) {
	for _, text := range []string{"", "end", "all; end", "has 1; term 2 5; or; phrase 1 6; or; end", "term 0 5; miss 2; all; and; end", "all; all; all; least 3 2; hit 0; end"} {
		f.Add(code(text))
	}
	f.Fuzz(func(t *testing.T, b []byte) {
		hold(t, turned(func(p *api.Prog) { p.Code = b }))
	})
}

// FuzzListing holds the programs of listings against the model.
func FuzzListing(f *testing.F) {
	m := newMaker(214)
	for range 20 {
		if text, err := isa.Text(m.program(8)); err == nil {
			f.Add(text)
		}
	}
	f.Fuzz(func(t *testing.T, text string) {
		if p, _, err := isa.Read(text); err == nil {
			hold(t, p)
		}
	})
}
