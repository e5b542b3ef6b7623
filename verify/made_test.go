package verify_test

import (
	"fmt"
	"math"
	"math/rand"
	"slices"
	"strings"
	"testing"

	"concord/api"
	"concord/isa"
	"concord/verify"
)

// code is the bytes of instructions that are told as in a listing, with `; ` between them.
func code(text string) []byte {
	if text == "" {
		return nil
	}
	p, _, err := isa.Read("avgs\n" + strings.ReplaceAll(text, "; ", "\n") + "\n")
	if err != nil {
		panic("no code: " + text)
	}
	return p.Code
}

// encoded is the bytes of instructions that have some.
func encoded(list []api.Instr) []byte {
	b, err := isa.Encode(list)
	if err != nil {
		panic("instructions without bytes")
	}
	return b
}

// decoded is the instructions of a program whose code is theirs.
func decoded(p api.Prog) []api.Instr {
	list, err := isa.Decode(p.Code)
	if err != nil {
		panic("code without instructions")
	}
	return list
}

// plain is a program over one field with one cursor, as the chapter's examples have it.
func plain(text string) api.Prog {
	return api.Prog{Avgs: []int{0}, Cursors: []api.Leaf{{Term: "a"}}, Code: code(text)}
}

// brief tells a program for a failed test, however long it is.
func brief(p api.Prog) string {
	if text, err := isa.Text(p); err == nil {
		return fmt.Sprintf("%.600q", text)
	}
	return fmt.Sprintf("%.600q", fmt.Sprintf("%+v", p))
}

// wantGood says that a program is good, and has these heights.
func wantGood(t testing.TB, p api.Prog, heights []int) {
	t.Helper()
	want := api.Proof{Length: len(heights), Height: slices.Max(heights)}
	if got, err := verify.Check(p); got != want || err != nil {
		t.Fatalf("Check of %s is %v and %v, not %v", brief(p), got, err, want)
	}
	if got, err := verify.Heights(p); !slices.Equal(got, heights) || err != nil {
		t.Fatalf("Heights of %s are %.300v and %v, not %.300v", brief(p), got, err, heights)
	}
}

// wantBad says that a program isn't good.
func wantBad(t testing.TB, p api.Prog) {
	t.Helper()
	if got, err := verify.Check(p); got != (api.Proof{}) || err != api.ErrCode {
		t.Fatalf("Check of %s is %v and %v, not ErrCode", brief(p), got, err)
	}
	if got, err := verify.Heights(p); len(got) != 0 || err != api.ErrCode {
		t.Fatalf("Heights of %s are %.300v and %v, not ErrCode", brief(p), got, err)
	}
}

// hold holds a program against the model, and answers the rules that it breaks.
func hold(t testing.TB, p api.Prog) []int {
	t.Helper()
	broken, heights := model(p)
	if broken == nil {
		wantGood(t, p, heights)
	} else {
		wantBad(t, p)
	}
	return broken
}

// wantBroken says that a program isn't good by this rule alone.
func wantBroken(t testing.TB, name string, p api.Prog, rule int) {
	t.Helper()
	if broken := hold(t, p); !slices.Equal(broken, []int{rule}) {
		t.Fatalf("%s: %s breaks the rules %v, not %d alone", name, brief(p), broken, rule)
	}
}

// wantKept says that a program is good.
func wantKept(t testing.TB, name string, p api.Prog) {
	t.Helper()
	if broken := hold(t, p); broken != nil {
		t.Fatalf("%s: %s breaks the rules %v", name, brief(p), broken)
	}
}

// edges are operands at the edges of what an int and a word hold.
var edges = []uint64{0, 1, 2, 3, 127, 128, 1<<31 - 1, 1 << 31, 1<<32 - 1, 1 << 32, math.MaxInt64, 1 << 63, 1<<63 + 1, math.MaxUint64 - 1, math.MaxUint64}

// maker draws programs.
type maker struct {
	*rand.Rand
}

func newMaker(seed int64) maker {
	return maker{rand.New(rand.NewSource(seed))}
}

// operand is one of which nothing is asked.
func (m maker) operand() uint64 {
	if m.Intn(2) == 0 {
		return edges[m.Intn(len(edges))]
	}
	return m.Uint64() >> m.Intn(64)
}

// place is an offset or a slop.
func (m maker) place() int {
	if m.Intn(4) == 0 {
		return []int{0, 1, 2147483645, 2147483646}[m.Intn(4)]
	}
	return m.Intn(5)
}

func (m maker) avg() int {
	if m.Intn(4) == 0 {
		return []int{0, 1, 1 << 31, math.MaxInt}[m.Intn(4)]
	}
	return m.Intn(20)
}

func (m maker) term() string {
	out := make([]byte, []int{0, 1, 3, m.Intn(65), 64}[m.Intn(5)])
	for i := range out {
		out[i] = byte(m.Intn(256))
	}
	return string(out)
}

// near is a phrase of some cursors of one field.
func (m maker) near(cursors []api.Leaf) api.Near {
	first := m.Intn(len(cursors))
	var like []int
	for i, c := range cursors {
		if c.Field == cursors[first].Field {
			like = append(like, i)
		}
	}
	near := api.Near{Slop: m.place()}
	for range 1 + m.Intn(4) {
		near.Cursors = append(near.Cursors, like[m.Intn(len(like))])
		near.Offs = append(near.Offs, m.place())
	}
	return near
}

// drive lets all documents drive a program, or some of its cursors.
func (m maker) drive(p api.Prog) api.Prog {
	p.All, p.Drive = m.Intn(3) == 0, nil
	for i := range p.Cursors {
		if !p.All && m.Intn(2) == 0 {
			p.Drive = append(p.Drive, i)
		}
	}
	return p
}

// further puts fields, cursors and phrases behind those of a program, and lets others drive it.
func (m maker) further(p api.Prog) api.Prog {
	p.Avgs, p.Cursors, p.Nears = slices.Clone(p.Avgs), slices.Clone(p.Cursors), slices.Clone(p.Nears)
	for range m.Intn(api.MaxFields - len(p.Avgs) + 1) {
		p.Avgs = append(p.Avgs, m.avg())
	}
	for range m.Intn(5) {
		p.Cursors = append(p.Cursors, api.Leaf{Field: m.Intn(len(p.Avgs)), Term: m.term()})
	}
	for range m.Intn(4) {
		if len(p.Cursors) > 0 {
			p.Nears = append(p.Nears, m.near(p.Cursors))
		}
	}
	return m.drive(p)
}

// puts is an instruction that puts a value and takes none.
func (m maker) puts(p api.Prog) api.Instr {
	switch n := m.Intn(5); {
	case n == 0:
		return api.Instr{Op: api.OpHas, A: uint64(m.Intn(len(p.Avgs)))}
	case n == 1 && len(p.Nears) > 0:
		return api.Instr{Op: api.OpPhrase, A: uint64(m.Intn(len(p.Nears))), B: m.operand()}
	case n < 4 && len(p.Cursors) > 0:
		return api.Instr{Op: api.OpTerm, A: uint64(m.Intn(len(p.Cursors))), B: m.operand()}
	}
	return api.Instr{Op: api.OpNone + m.Intn(2)}
}

// least is an OpLeast that takes so many.
func (m maker) least(n int) api.Instr {
	return api.Instr{Op: api.OpLeast, A: uint64(n), B: uint64(1 + m.Intn(n))}
}

// next is an instruction that may stand at this height, and the height behind it. Skips have no operand yet.
func (m maker) next(p api.Prog, height int) (api.Instr, int) {
	switch n := m.Intn(10); {
	case height == 0 || n < 4:
		return m.puts(p), height + 1
	case n == 4:
		return []api.Instr{{Op: api.OpNot}, {Op: api.OpScale, A: m.operand()}, {Op: api.OpFix, A: m.operand()}}[m.Intn(3)], height
	case n < 7:
		return api.Instr{Op: api.OpMiss + m.Intn(2)}, height
	case n == 7:
		in := m.least(1 + m.Intn(height))
		return in, height + 1 - int(in.A)
	case height == 1:
		return m.puts(p), 2
	}
	return api.Instr{Op: api.OpAnd + m.Intn(5)}, height - 1
}

// instructions are a good program's, with so many ahead of the last ones at most.
func (m maker) instructions(p api.Prog, most int) []api.Instr {
	var list []api.Instr
	var heights []int
	height := 0
	put := func(in api.Instr, behind int) {
		list, heights = append(list, in), append(heights, height)
		height = behind
	}
	for range m.Intn(most + 1) {
		put(m.next(p, height))
	}
	if height == 0 {
		put(m.puts(p), 1)
	}
	for height > 1 {
		if m.Intn(4) == 0 {
			put(m.least(height), 1)
		} else {
			put(api.Instr{Op: api.OpAnd + m.Intn(5)}, height-1)
		}
	}
	put(api.Instr{Op: api.OpEnd}, 1)
	m.skip(list, heights)
	return list
}

// skip gives each skip an operand that leads to an instruction of its height. There is always one: the next.
func (m maker) skip(list []api.Instr, heights []int) {
	for i, in := range list {
		if !isSkip(in) {
			continue
		}
		var may []uint64
		for to := i + 1; to < len(list); to++ {
			if heights[to] == heights[i] {
				may = append(may, uint64(to-i-1))
			}
		}
		list[i].A = may[m.Intn(len(may))]
	}
}

// program is a good program.
func (m maker) program(most int) api.Prog {
	p := m.further(api.Prog{Avgs: []int{m.avg()}})
	p.Code = encoded(m.instructions(p, most))
	return p
}
