package vm_test

import (
	"math"
	"slices"
	"strings"
	"testing"

	"concord/api"
	"concord/verify"
)

// operand is one of which nothing is asked.
func (m *maker) operand() uint64 {
	if m.Intn(2) == 0 {
		return m.weight()
	}
	return m.Uint64() >> m.Intn(64)
}

// place is an offset or a slop.
func (m *maker) place() int {
	if m.Intn(8) == 0 {
		return pickOf(m, 0, 1, 16, api.EndDoc-2, api.EndDoc-1)
	}
	return m.Intn(5)
}

// avg is an average of which nothing is asked but that it isn't below 0.
func (m *maker) avg() int {
	if m.Intn(4) == 0 {
		return pickOf(m, 0, 1, 1<<20, 1<<31, math.MaxInt)
	}
	return m.Intn(20)
}

// near is a phrase of some cursors of one field.
func (m *maker) near(cursors []api.Leaf) api.Near {
	first := m.Intn(len(cursors))
	var like []int
	for i, c := range cursors {
		if c.Field == cursors[first].Field {
			like = append(like, i)
		}
	}
	near := api.Near{Slop: m.place()}
	for range 1 + m.Intn(4) {
		near.Cursors = append(near.Cursors, like[m.Intn(len(like))])
		near.Offs = append(near.Offs, m.place())
	}
	return near
}

// tables is a program over so many fields, but for its code.
func (m *maker) tables(fields int) api.Prog {
	var p api.Prog
	for range fields {
		p.Avgs = append(p.Avgs, m.avg())
	}
	for range m.Intn(7) {
		p.Cursors = append(p.Cursors, api.Leaf{Field: m.field(fields), Term: m.text()})
	}
	for range m.Intn(4) {
		if len(p.Cursors) > 0 {
			p.Nears = append(p.Nears, m.near(p.Cursors))
		}
	}
	p.All = m.Intn(3) == 0
	for i := range p.Cursors {
		if !p.All && m.Intn(2) == 0 {
			p.Drive = append(p.Drive, i)
		}
	}
	return p
}

// puts is an instruction that puts a value and takes none.
func (m *maker) puts(p api.Prog) api.Instr {
	switch n := m.Intn(6); {
	case n == 0:
		return api.Instr{Op: api.OpHas, A: uint64(m.Intn(len(p.Avgs)))}
	case n <= 2 && len(p.Nears) > 0:
		return api.Instr{Op: api.OpPhrase, A: uint64(m.Intn(len(p.Nears))), B: m.operand()}
	case n <= 4 && len(p.Cursors) > 0:
		return api.Instr{Op: api.OpTerm, A: uint64(m.Intn(len(p.Cursors))), B: m.operand()}
	}
	return api.Instr{Op: api.OpNone + m.Intn(2)}
}

func (m *maker) leastOf(n int) api.Instr {
	return api.Instr{Op: api.OpLeast, A: uint64(n), B: uint64(1 + m.Intn(n))}
}

// next is an instruction that may stand at this height, and the height behind it. Skips have no operand yet.
func (m *maker) next(p api.Prog, height int) (api.Instr, int) {
	switch n := m.Intn(10); {
	case height == 0 || n < 4:
		return m.puts(p), height + 1
	case n == 4:
		return pickOf(m, api.Instr{Op: api.OpNot}, api.Instr{Op: api.OpScale, A: m.operand()}, api.Instr{Op: api.OpFix, A: m.operand()}), height
	case n < 7:
		return api.Instr{Op: api.OpMiss + m.Intn(2)}, height
	case n == 7:
		in := m.leastOf(1 + m.Intn(height))
		return in, height + 1 - int(in.A)
	case height == 1:
		return m.puts(p), 2
	}
	return api.Instr{Op: api.OpAnd + m.Intn(5)}, height - 1
}

// instructions are a good program's, with so many ahead of the last ones at most.
func (m *maker) instructions(p api.Prog, most int) []api.Instr {
	var list []api.Instr
	var heights []int
	height := 0
	put := func(in api.Instr, behind int) {
		list, heights = append(list, in), append(heights, height)
		height = behind
	}
	for range m.Intn(most + 1) {
		put(m.next(p, height))
	}
	if height == 0 {
		put(m.puts(p), 1)
	}
	for height > 1 {
		if m.Intn(4) == 0 {
			put(m.leastOf(height), 1)
		} else {
			put(api.Instr{Op: api.OpAnd + m.Intn(5)}, height-1)
		}
	}
	put(api.Instr{Op: api.OpEnd}, 1)
	m.lead(list, heights)
	return list
}

// lead gives each skip an operand that leads to an instruction of its height. There is always one: the next.
func (m *maker) lead(list []api.Instr, heights []int) {
	for i, in := range list {
		if in.Op != api.OpMiss && in.Op != api.OpHit {
			continue
		}
		var may []uint64
		for to := i + 1; to < len(list) && to < i+200; to++ {
			if heights[to] == heights[i] {
				may = append(may, uint64(to-i-1))
			}
		}
		list[i].A = may[m.Intn(len(may))]
	}
}

// program is a good program over so many fields.
func (m *maker) program(fields, most int) api.Prog {
	p := m.tables(fields)
	p.Code = encoded(m.instructions(p, most))
	return p
}

// P23.1, P23.2, P23.3: drawn good programs over drawn parts, some of whose documents are dead.
func TestDrawnPrograms(t *testing.T) {
	m := newMaker(231)
	met := kinds{}
	for i := range 1200 {
		s, cut := m.cut(t, 2)
		for range 12 {
			p := m.program(len(s.Fields), 1+m.Intn(30))
			if i%40 == 0 {
				p = m.program(len(s.Fields), 1000)
			}
			for _, over := range cut {
				run := hold(t, p, over, met)
				live := len(over.live())
				met.note("no hit", len(run.Hits) == 0 && live > 0)
				met.note("some hits", len(run.Hits) > 0 && len(run.Hits) < live)
				met.note("all hits", len(run.Hits) == live && live > 1)
				met.note("no visit", run.Visits == 0 && live > 0)
				met.note("some visits", !p.All && run.Visits > 0 && run.Visits < live)
				met.note("some dead", run.Visits > 0 && live < len(over.sheets))
			}
		}
	}
	met.wantMany(t, 300, "no hit", "some hits", "all hits", "no visit", "some visits", "some dead", "a dead one drives")
	met.wantMany(t, 300, "behind", "at the document", "ahead", "at its end", "the first elsewhere", "a middle one elsewhere", "the last elsewhere", "freq 0", "one cursor twice")
	for _, name := range strings.Fields("has term phrase and or max opt except not scale fix least miss hit end") {
		met.wantMany(t, 1000, name, "no "+name)
	}
	met.wantMany(t, 1000, "all", "no none")
}

// P23.2: moves over a whole life are no more than they may be, where every cursor is asked everywhere and every position told.
func TestMostMoves(t *testing.T) {
	m := newMaker(232)
	for range 150 {
		s, cut := m.cut(t, 1)
		var p api.Prog
		var code []api.Instr
		for i := range 1 + m.Intn(5) {
			p.Cursors = append(p.Cursors, api.Leaf{Field: m.field(len(s.Fields)), Term: m.text()})
			p.Nears = append(p.Nears, api.Near{Cursors: []int{i}, Offs: []int{0}})
			code = append(code, api.Instr{Op: api.OpPhrase, A: uint64(i), B: 1})
			p.Drive = append(p.Drive, i)
		}
		p.Avgs = make([]int, len(s.Fields))
		p.Code = encoded(append(code, api.Instr{Op: api.OpLeast, A: uint64(len(code)), B: 1}, api.Instr{Op: api.OpEnd}))
		run := hold(t, p, cut[0], kinds{})
		// Without a dead one each document is a move, each end, and each position.
		want := 0
		for _, leaf := range p.Cursors {
			c := cut[0].part.Cursor(leaf.Field, leaf.Term)
			want += c.Docs() + 1 + c.Total()
		}
		if run.Moves > want || cut[0].part.Live() == cut[0].part.Docs() && run.Moves != want {
			t.Fatalf("%s: %d moves, not %d", brief(p), run.Moves, want)
		}
	}
}

// row is instructions that never lack a value, and the height behind them.
type row struct {
	list   []api.Instr
	height int
}

// longer are the rows with one more of these instructions, wherever it doesn't lack a value.
func longer(rows []row, one []api.Instr) []row {
	var out []row
	for _, r := range rows {
		for _, in := range one {
			takes := []int{api.OpEnd: 1, api.OpAnd: 2, api.OpOr: 2, api.OpMax: 2, api.OpOpt: 2, api.OpExcept: 2, api.OpNot: 1, api.OpScale: 1, api.OpFix: 1, api.OpLeast: int(in.A), api.OpMiss: 1, api.OpHit: 1}[in.Op]
			if takes <= r.height {
				out = append(out, row{append(slices.Clone(r.list), in), r.height + 1 - takes})
			}
		}
	}
	return out
}

// P23.1: all rows of few instructions that make a good program, over documents that have all, some and none of its terms.
func TestAllShortRows(t *testing.T) {
	over := texts(t, "a b", "", "b a", "!a b", "a", "b b", "a b")
	one := decoded(read(t, "avgs; none; all; term 0 3; phrase 0 5; and; or; max; opt; except; not; fix 2; least 1 1; least 2 1; least 2 2; least 3 2; miss 0; miss 1; hit 0; hit 1; miss 2; hit 3"))
	good := 0
	rows := []row{{}}
	for range 5 {
		rows = longer(rows, one)
		for _, r := range rows {
			p := api.Prog{Avgs: []int{2}, Cursors: []api.Leaf{{Term: "a"}, {Term: "b"}}, Nears: []api.Near{{Cursors: []int{0, 1}, Offs: []int{0, 1}}}, All: true}
			p.Code = encoded(append(slices.Clone(r.list), api.Instr{Op: api.OpEnd}))
			if _, err := verify.Check(p); err == nil {
				holdShort(t, p, over)
				p.All, p.Drive = false, []int{0}
				holdShort(t, p, over)
				good++
			}
		}
	}
	if good < 30000 {
		t.Errorf("only %d are good", good)
	}
}

// holdShort holds the calls of a machine alone against the model.
func holdShort(t testing.TB, p api.Prog, over made) {
	t.Helper()
	holdMachine(t, p, over, newModel(p, over, kinds{}).run())
}
