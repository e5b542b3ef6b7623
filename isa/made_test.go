package isa_test

import (
	"bytes"
	"fmt"
	"math"
	"math/rand"
	"slices"
	"testing"

	"concord/api"
	"concord/isa"
)

// edges are operands at the edges of what a byte, an int and a word hold.
var edges = []uint64{0, 1, 7, 9, 10, 99, 100, 127, 128, 300, 16383, 16384, 1<<31 - 1, 1 << 32, math.MaxInt64, 1 << 63, math.MaxUint64 - 1, math.MaxUint64}

// ints are such numbers that stand for an int.
var ints = []int{0, 1, 2, 9, 10, 11, 99, 100, 127, 128, 1<<31 - 1, 1 << 31, 1 << 40, math.MaxInt - 1, math.MaxInt}

// alike tells whether two programs are alike in every field; nil and empty are one.
func alike(p, q api.Prog) bool {
	sameNear := func(a, b api.Near) bool {
		return slices.Equal(a.Cursors, b.Cursors) && slices.Equal(a.Offs, b.Offs) && a.Slop == b.Slop
	}
	return slices.Equal(p.Avgs, q.Avgs) && slices.Equal(p.Cursors, q.Cursors) && slices.EqualFunc(p.Nears, q.Nears, sameNear) && p.All == q.All && slices.Equal(p.Drive, q.Drive) && bytes.Equal(p.Code, q.Code)
}

// brief tells a thing for a failed test, however long it is.
func brief(v any) string {
	return fmt.Sprintf("%.500s", fmt.Sprintf("%+v", v))
}

// maker draws programs.
type maker struct {
	*rand.Rand
}

func newMaker(seed int64) maker {
	return maker{rand.New(rand.NewSource(seed))}
}

func (m maker) int() int {
	if m.Intn(4) == 0 {
		return ints[m.Intn(len(ints))]
	}
	return m.Intn(4)
}

func (m maker) ints(most int) []int {
	var list []int
	for range m.Intn(most + 1) {
		list = append(list, m.int())
	}
	return list
}

func (m maker) operand() uint64 {
	switch m.Intn(3) {
	case 0:
		return edges[m.Intn(len(edges))]
	case 1:
		return m.Uint64() >> m.Intn(64)
	}
	return uint64(m.Intn(4))
}

func (m maker) instruction() api.Instr {
	in := api.Instr{Op: m.Intn(len(table))}
	for _, to := range []*uint64{&in.A, &in.B}[:table[in.Op].args] {
		*to = m.operand()
	}
	return in
}

func (m maker) instructions(most int) []api.Instr {
	var list []api.Instr
	for range m.Intn(most + 1) {
		list = append(list, m.instruction())
	}
	return list
}

// term has bytes of all kinds, mostly those that a listing has a use for.
func (m maker) term() string {
	const some = "ab \"\\ \n+0\x00\x1f\x7f\x80\xff\t"
	out := make([]byte, m.Intn(6))
	for i := range out {
		out[i] = some[m.Intn(len(some))]
		if m.Intn(3) == 0 {
			out[i] = byte(m.Intn(256))
		}
	}
	return string(out)
}

func (m maker) program() api.Prog {
	p := api.Prog{Avgs: m.ints(3), All: m.Intn(2) == 0, Code: mustEncode(m.instructions(4))}
	for range m.Intn(3) {
		p.Cursors = append(p.Cursors, api.Leaf{Field: m.int(), Term: m.term()})
	}
	for range m.Intn(3) {
		near := api.Near{Slop: m.int(), Cursors: m.ints(3)}
		for range near.Cursors {
			near.Offs = append(near.Offs, m.int())
		}
		p.Nears = append(p.Nears, near)
	}
	if m.Intn(2) == 0 {
		p.Drive = m.ints(3)
	}
	return p
}

// mustEncode is the bytes of instructions that have some, by the model.
func mustEncode(list []api.Instr) []byte {
	b, ok := modelEncode(list)
	if !ok {
		panic("instructions without bytes")
	}
	return b
}

// code is the bytes of instructions, each told as its operation and its operands.
func code(list ...[]uint64) []byte {
	var out []api.Instr
	for _, told := range list {
		told = append(slices.Clone(told), 0, 0)
		out = append(out, api.Instr{Op: int(told[0]), A: told[1], B: told[2]})
	}
	return mustEncode(out)
}

// full is a program with two at least of everything.
func full() api.Prog {
	return api.Prog{
		Avgs:    []int{3, 0, 12},
		Cursors: []api.Leaf{{Field: 0, Term: `a"b`}, {Field: 2, Term: "x y"}, {Field: 10, Term: ""}},
		Nears:   []api.Near{{Cursors: []int{0, 1}, Offs: []int{0, 7}, Slop: 2}, {Slop: 0}, {Cursors: []int{2, 0, 2}, Offs: []int{5, 5, 0}, Slop: 40}},
		All:     true,
		Drive:   []int{0, 20},
		Code:    code([]uint64{api.OpTerm, 0, 7}, []uint64{api.OpMiss, 2}, []uint64{api.OpAll}, []uint64{api.OpAnd}, []uint64{api.OpEnd}),
	}
}

// fullText is its listing.
const fullText = `avgs 3 0 12
cursor 0 "a\22b"
cursor 2 "x y"
cursor 10 ""
near 2 0+0 1+7
near 0
near 40 2+5 0+5 2+0
every
drive 0 20
term 0 7
miss 2
all
and
end
`

// programs are programs that can be listed, by their listings.
func programs() map[string]api.Prog {
	return map[string]api.Prog{
		"avgs\n": {}, "avgs 0\n": {Avgs: []int{0}}, "avgs 0 0\n": {Avgs: []int{0, 0}}, "avgs 10 9 100\n": {Avgs: []int{10, 9, 100}}, "avgs 9223372036854775807\n": {Avgs: []int{math.MaxInt}},
		"avgs 3 0\ncursor 0 \"a\\22b\"\ndrive 0\nterm 0 7\nend\n": {Avgs: []int{3, 0}, Cursors: []api.Leaf{{Field: 0, Term: `a"b`}}, Drive: []int{0}, Code: code([]uint64{api.OpTerm, 0, 7}, []uint64{api.OpEnd})},
		"avgs\ncursor 0 \"\"\n":                                   {Cursors: []api.Leaf{{}}}, "avgs\ncursor 9223372036854775807 \" \"\ncursor 0 \"  \"\n": {Cursors: []api.Leaf{{Field: math.MaxInt, Term: " "}, {Term: "  "}}},
		"avgs\ncursor 1 \" a  b \"\ncursor 1 \" a  b \"\n": {Cursors: []api.Leaf{{Field: 1, Term: " a  b "}, {Field: 1, Term: " a  b "}}}, "avgs\ncursor 0 \"\\0aevery\\0a\"\n": {Cursors: []api.Leaf{{Term: "\nevery\n"}}},
		"avgs\nnear 0\n": {Nears: []api.Near{{}}}, "avgs\nnear 0\nnear 9223372036854775807\n": {Nears: []api.Near{{}, {Slop: math.MaxInt}}}, "avgs\nnear 1 2+3\n": {Nears: []api.Near{{Cursors: []int{2}, Offs: []int{3}, Slop: 1}}},
		"avgs\nnear 0 0+0 9223372036854775807+0 0+9223372036854775807\n": {Nears: []api.Near{{Cursors: []int{0, math.MaxInt, 0}, Offs: []int{0, 0, math.MaxInt}}}},
		"avgs\nevery\n": {All: true}, "avgs\ndrive 0\n": {Drive: []int{0}}, "avgs\ndrive 5 5 0 9223372036854775807\n": {Drive: []int{5, 5, 0, math.MaxInt}}, "avgs\nevery\ndrive 1\n": {All: true, Drive: []int{1}},
		"avgs\nend\n": {Code: []byte{0}}, "avgs\nall\nall\nend\nend\n": {Code: []byte{2, 2, 0, 0}}, "avgs\nevery\nall\n": {All: true, Code: []byte{2}}, "avgs\nscale 300\n": {Code: []byte{12, 0xac, 2}},
		"avgs\nend\nnone\nall\nhas 1\nterm 2 3\nphrase 4 5\nand\nor\nmax\nopt\nexcept\nnot\nscale 6\nfix 7\nleast 8 9\nmiss 10\nhit 11\n": {Code: []byte{0, 1, 2, 3, 1, 4, 2, 3, 5, 4, 5, 6, 7, 8, 9, 10, 11, 12, 6, 13, 7, 14, 8, 9, 15, 10, 16, 11}},
		"avgs\nterm 18446744073709551615 0\nleast 0 18446744073709551615\nhit 9223372036854775808\n":                                      {Code: code([]uint64{api.OpTerm, math.MaxUint64, 0}, []uint64{api.OpLeast, 0, math.MaxUint64}, []uint64{api.OpHit, 1 << 63})},
		fullText: full(),
	}
}

// holdText holds the Text of a program against the model, and Read of it against the program; it tells whether there is one.
func holdText(t testing.TB, p api.Prog) bool {
	t.Helper()
	text, err := isa.Text(p)
	want, ok := modelText(p)
	if !ok {
		if err != api.ErrCode || text != "" {
			t.Fatalf("Text(%s) is %.500q and %v", brief(p), text, err)
		}
		return false
	}
	if err != nil || text != want {
		t.Fatalf("Text(%s) is %.500q and %v, not %.500q", brief(p), text, err, want)
	}
	if q, n, err := isa.Read(text); err != nil || n != 0 || !alike(p, q) {
		t.Fatalf("Read of the listing %.500q is %s, %d and %v, not %s", text, brief(q), n, err, brief(p))
	}
	return true
}

// holdRead holds Read of a text against the model, and Text of what it answers against the text; it tells whether it is taken.
func holdRead(t testing.TB, text string) bool {
	t.Helper()
	p, n, err := isa.Read(text)
	want, line := modelRead(text)
	if line > 0 {
		if err != api.ErrSyntax || n != line || !alike(p, api.Prog{}) {
			t.Fatalf("Read(%.500q) is %s, %d and %v, where the line %d fails", text, brief(p), n, err, line)
		}
		return false
	}
	if err != nil || n != 0 || !alike(p, want) {
		t.Fatalf("Read(%.500q) is %s, %d and %v, not %s", text, brief(p), n, err, brief(want))
	}
	if back, err := isa.Text(p); err != nil || back != text {
		t.Fatalf("Read(%.500q) is %s, whose listing is %.500q and %v", text, brief(p), back, err)
	}
	return true
}
