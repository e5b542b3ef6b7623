package verify_test

import (
	"math"
	"slices"
	"strings"
	"testing"

	"concord/api"
)

// P21.1: the chapter's examples 1 to 6.
func TestExamples(t *testing.T) {
	good := []struct {
		text    string
		heights []int
	}{
		{"all; end", []int{0, 1}},
		{"term 0 5; all; and; end", []int{0, 1, 2, 1}},
		{"term 0 5; miss 2; all; and; end", []int{0, 1, 1, 2, 1}},
		{"term 0 5; hit 0; end", []int{0, 1, 1}},
		{"all; all; all; least 3 2; end", []int{0, 1, 2, 3, 1}},
	}
	for _, x := range good {
		wantGood(t, plain(x.text), x.heights)
	}
	bad := []string{
		"term 0 5; miss 1; all; and; end", "term 0 5; hit 1; end", "term 0 5; hit 18446744073709551615; end",
		"all; all; all; least 3 0; end", "all; all; all; least 3 4; end", "all; all; all; least 0 0; end", "all; all; all; least 4 1; end",
		"", "end", "all; all; end", "all; end; end", "and; end", "term 1 5; end", "has 1; end", "phrase 0 1; end",
	}
	for _, text := range bad {
		wantBad(t, plain(text))
	}
}

// P21.1: the chapter's example 7.
func TestExamplesOfTables(t *testing.T) {
	cursors := []api.Leaf{{Term: "a"}, {Field: 1, Term: "b"}}
	for _, p := range []api.Prog{
		{},
		{Avgs: make([]int, 17)},
		{Avgs: []int{-1}},
		{Avgs: []int{0}, Cursors: cursors[1:]},
		{Avgs: []int{0}, Cursors: cursors[:1], Drive: []int{0, 0}},
		{Avgs: []int{0}, Cursors: cursors[:1], All: true, Drive: []int{0}},
		{Avgs: []int{0, 0}, Cursors: cursors, Nears: []api.Near{{Cursors: []int{0, 1}, Offs: []int{0, 1}}}},
		{Avgs: []int{0}, Nears: []api.Near{{}}},
	} {
		p.Code = code("all; end")
		wantBad(t, p)
	}
}

// row is a program, and the one rule that it breaks: 0, if it is good.
type row struct {
	name string
	prog api.Prog
	rule int
}

func wantRows(t *testing.T, rows []row) {
	t.Helper()
	for _, x := range rows {
		if x.rule == 0 {
			wantKept(t, x.name, x.prog)
		} else {
			wantBroken(t, x.name, x.prog, x.rule)
		}
	}
}

// wide is a program of two fields, with cursors and phrases of both.
func wide() api.Prog {
	return api.Prog{
		Avgs:    []int{3, 0},
		Cursors: []api.Leaf{{Term: "a"}, {Term: "b"}, {Field: 1, Term: "a"}},
		Nears:   []api.Near{{Cursors: []int{0, 1}, Offs: []int{0, 1}}, {Cursors: []int{2}, Offs: []int{0}, Slop: 2}},
		Drive:   []int{0, 2},
		Code:    code("has 1; term 2 5; or; phrase 1 6; or; end"),
	}
}

// turned is the wide program with one thing turned.
func turned(turn func(p *api.Prog)) api.Prog {
	p := wide()
	turn(&p)
	return p
}

// P21.1: the rule 1.
func TestAvgs(t *testing.T) {
	rows := []row{{"the wide program", wide(), 0}}
	avgs := func(name string, rule int, list ...int) {
		rows = append(rows, row{name, api.Prog{Avgs: list, Code: code("all; end")}, rule})
	}
	avgs("none", 1)
	avgs("none, as an empty list", 1, []int{}...)
	for n := 1; n <= 40; n++ {
		rule := 0
		if n > api.MaxFields {
			rule = 1
		}
		avgs("as many as that", rule, make([]int, n)...)
		for i := range n {
			list := make([]int, n)
			list[i] = -1
			avgs("one below 0", 1, list...)
		}
	}
	avgs("great", 0, math.MaxInt, 1<<31, 1<<32)
	avgs("far below 0", 1, 0, math.MinInt)
	avgs("too many", 1, make([]int, 1<<16)...)
	wantRows(t, rows)
}

// P21.1: the rule 2.
func TestCursors(t *testing.T) {
	var rows []row
	cursor := func(name string, rule int, fields int, field int, term string) {
		c := api.Leaf{Field: field, Term: term}
		for _, list := range [][]api.Leaf{{c}, {c, {}}, {{}, {}, c}} {
			rows = append(rows, row{name, api.Prog{Avgs: make([]int, fields), Cursors: list, Code: code("all; end")}, rule})
		}
	}
	for n := 1; n <= api.MaxFields; n++ {
		for field := -3; field < n+3; field++ {
			rule := 2
			if field >= 0 && field < n {
				rule = 0
			}
			cursor("a field", rule, n, field, "a")
		}
		cursor("a great field", 2, n, math.MaxInt, "a")
		cursor("a field far below 0", 2, n, math.MinInt, "a")
	}
	for n := range 130 {
		rule := 0
		if n > 64 {
			rule = 2
		}
		cursor("a term of as many bytes", rule, 1, 0, strings.Repeat("a", n))
		cursor("a term of bytes that aren't UTF-8", rule, 1, 0, strings.Repeat("\xff", n))
	}
	cursor("bytes, not letters: 64", 0, 1, 0, strings.Repeat("ä", 32))
	cursor("bytes, not letters: 66", 2, 1, 0, strings.Repeat("ä", 33))
	cursor("a very long term", 2, 1, 0, strings.Repeat("a", 1<<16))
	rows = append(rows, row{"one twice", turned(func(p *api.Prog) { p.Cursors[1] = p.Cursors[0] }), 0})
	wantRows(t, rows)
}

// places are offsets and slops, and whether they may be.
var places = map[int]bool{
	math.MinInt: false, math.MinInt32: false, -2147483646: false, -1: false, 0: true, 1: true, 16: true, 2147483645: true, 2147483646: true,
	2147483647: false, 1 << 31: false, 1<<32 - 1: false, 1 << 32: false, math.MaxInt: false,
}

// P21.1: the rule 3.
func TestNears(t *testing.T) {
	var rows []row
	near := func(name string, rule int, n api.Near) {
		good := api.Near{Cursors: []int{1, 0}, Offs: []int{0, 1}}
		for _, list := range [][]api.Near{{n, good}, {good, n}, {good, good, n, good}} {
			rows = append(rows, row{name, turned(func(p *api.Prog) { p.Nears = list }), rule})
		}
	}
	near("no cursors", 3, api.Near{})
	near("no cursors, as empty lists", 3, api.Near{Cursors: []int{}, Offs: []int{}})
	near("offsets alone", 3, api.Near{Offs: []int{0}})
	near("cursors alone", 3, api.Near{Cursors: []int{0}})
	near("an offset too few", 3, api.Near{Cursors: []int{0, 1}, Offs: []int{0}})
	near("an offset too many", 3, api.Near{Cursors: []int{0}, Offs: []int{0, 1}})
	near("one cursor", 0, api.Near{Cursors: []int{2}, Offs: []int{7}})
	near("one cursor often", 0, api.Near{Cursors: []int{0, 0, 1, 0}, Offs: []int{0, 0, 9, 3}})
	for _, c := range []int{math.MinInt, -1, 3, 4, 1 << 32, math.MaxInt} {
		near("no such cursor", 3, api.Near{Cursors: []int{c}, Offs: []int{0}})
		near("no such cursor behind others", 3, api.Near{Cursors: []int{0, 1, c}, Offs: []int{0, 1, 2}})
		near("no such cursor ahead of others", 3, api.Near{Cursors: []int{c, 1, 0}, Offs: []int{0, 1, 2}})
	}
	for _, list := range [][]int{{0, 2}, {2, 0}, {2, 1}, {0, 1, 2}, {2, 0, 1}, {0, 2, 0}, {2, 2, 1}} {
		near("two fields", 3, api.Near{Cursors: list, Offs: make([]int, len(list))})
	}
	for v, may := range places {
		rule := 3
		if may {
			rule = 0
		}
		near("the slop", rule, api.Near{Cursors: []int{0}, Offs: []int{0}, Slop: v})
		near("the one offset", rule, api.Near{Cursors: []int{0}, Offs: []int{v}})
		near("the first offset", rule, api.Near{Cursors: []int{0, 0}, Offs: []int{v, 0}})
		near("the last offset", rule, api.Near{Cursors: []int{0, 0, 1}, Offs: []int{0, 0, v}})
	}
	wantRows(t, rows)
}

// P21.1: the rule 4.
func TestDrive(t *testing.T) {
	var rows []row
	drive := func(name string, rule int, all bool, list ...int) {
		rows = append(rows, row{name, turned(func(p *api.Prog) { p.All, p.Drive = all, list }), rule})
	}
	drive("nothing", 0, false)
	drive("all", 0, true)
	drive("all and an empty list", 0, true, []int{}...)
	for _, list := range [][]int{{0}, {1}, {2}, {0, 1}, {0, 2}, {1, 2}, {0, 1, 2}} {
		drive("some", 0, false, list...)
		drive("all and some", 4, true, list...)
	}
	for _, c := range []int{math.MinInt, -1, 3, 4, 1 << 32, math.MaxInt} {
		drive("no such cursor", 4, false, c)
		drive("no such cursor behind others", 4, false, 0, 2, c)
		drive("no such cursor ahead of others", 4, false, c, 0, 2)
	}
	for _, list := range [][]int{{0, 0}, {1, 0}, {2, 0}, {2, 2}, {0, 1, 1}, {0, 0, 1}, {0, 2, 1}, {1, 2, 0}, {0, 1, 2, 2}, {0, 1, 2, 0}} {
		drive("they don't rise", 4, false, list...)
	}
	rows = append(rows, row{"no cursors at all", api.Prog{Avgs: []int{0}, Drive: []int{0}, Code: code("all; end")}, 4})
	wantRows(t, rows)
}

// P21.1: the rule 5.
func TestCode(t *testing.T) {
	var rows []row
	for _, b := range [][]byte{
		nil, {}, {17}, {255}, {0x80}, {2, 17, 0}, {2, 0, 17}, {17, 2, 0}, {2, 0, 255}, {3}, {3, 0x80}, {3, 0x80, 0, 0}, {2, 0, 3}, {2, 0, 4, 0}, {4, 0}, {14, 1}, {2, 12},
		{2, 12, 0xff, 0xff, 0xff, 0xff, 0xff, 0xff, 0xff, 0xff, 0xff, 2, 0}, {2, 12, 0xff, 0xff, 0xff, 0xff, 0xff, 0xff, 0xff, 0xff, 0xff, 0xff, 0}, {2, 12, 0x81, 0, 0},
	} {
		rows = append(rows, row{"not the bytes of instructions, or of none", api.Prog{Avgs: []int{0}, Code: b}, 5})
	}
	for _, text := range []string{"all", "all; not", "term 0 5; all; and", "all; end; end", "all; end; all; end", "all; end; not", "all; end; all; and; end", "all; not; end; end; end"} {
		rows = append(rows, row{"no end, or more than one, or elsewhere", plain(text), 5})
	}
	rows = append(rows, row{"a great operand", api.Prog{Avgs: []int{0}, Code: []byte{2, 12, 0xff, 0xff, 0xff, 0xff, 0xff, 0xff, 0xff, 0xff, 0xff, 1, 0}}, 0})
	rows = append(rows, row{"an end skipped", plain("all; miss 1; end; end"), 5})
	wantRows(t, rows)
}

// oneMore is a program of so many fields, cursors and phrases.
func oneMore(n int, list ...api.Instr) api.Prog {
	p := api.Prog{Avgs: make([]int, max(1, n)), Code: encoded(append(list, api.Instr{Op: api.OpEnd}))}
	for range n {
		p.Cursors = append(p.Cursors, api.Leaf{Term: "a"})
		p.Nears = append(p.Nears, api.Near{Cursors: []int{0}, Offs: []int{0}})
	}
	return p
}

// operands are numbers around n, and such as are around n in their lower bits.
func operands(n int) []uint64 {
	list := slices.Clone(edges)
	for i := range n + 4 {
		for _, high := range []uint64{0, 1 << 8, 1 << 31, 1 << 32, 1 << 62, 1 << 63, math.MaxUint64 - math.MaxUint32} {
			list = append(list, uint64(i)+high, high-uint64(i))
		}
	}
	return list
}

// P21.1: the rule 6, over fields, cursors and phrases.
func TestTablesAreThere(t *testing.T) {
	for n := range 17 {
		for _, op := range []int{api.OpHas, api.OpTerm, api.OpPhrase} {
			size := n
			if op == api.OpHas {
				size = max(1, n)
			}
			for _, a := range operands(n) {
				if p := oneMore(n, api.Instr{Op: op, A: a}); a < uint64(size) {
					wantKept(t, "one of the table", p)
				} else {
					wantBroken(t, "not one of the table", p, 6)
				}
			}
		}
	}
	for _, w := range edges {
		wantGood(t, oneMore(1, api.Instr{Op: api.OpTerm, B: w}, api.Instr{Op: api.OpPhrase, B: w}, api.Instr{Op: api.OpOpt}, api.Instr{Op: api.OpScale, A: w}, api.Instr{Op: api.OpFix, A: w}), []int{0, 1, 2, 1, 1, 1})
	}
}

// P21.1: the rule 6 in each instruction, not in the first ones alone.
func TestOperandsEverywhere(t *testing.T) {
	for _, text := range []string{"has 1", "term 1 0", "phrase 0 0"} {
		for n := range 40 {
			ahead, behind := strings.Repeat("all; and; ", n), strings.Repeat("; all; and", 40-n)
			wantBroken(t, "not one of the table", plain("all; "+ahead+text+"; and"+behind+"; end"), 6)
			wantKept(t, "one of the table", plain("all; "+ahead+"has 0; and"+behind+"; end"))
		}
	}
}

// repeated is one instruction, as often as n.
func repeated(in api.Instr, n int) []api.Instr {
	return slices.Repeat([]api.Instr{in}, n)
}

// P21.1: OpLeast, over its operands and the values that are there.
func TestLeast(t *testing.T) {
	for height := range 6 {
		for _, a := range operands(6) {
			for _, b := range append(operands(6), a, a+1, a-1) {
				list := append(repeated(api.Instr{Op: api.OpAll}, height), api.Instr{Op: api.OpLeast, A: a, B: b})
				if a >= 1 && b >= 1 && b <= a && a <= uint64(height) {
					list = append(list, repeated(api.Instr{Op: api.OpOr}, height-int(a))...)
					wantKept(t, "values enough", oneMore(1, list...))
					continue
				}
				wantBad(t, oneMore(1, append(slices.Clone(list), repeated(api.Instr{Op: api.OpOr}, max(0, height-1))...)...))
				wantBad(t, oneMore(1, list...))
			}
		}
	}
	alone := map[string]int{
		"all; least 0 0; and; end": 6, "all; least 0 1; and; end": 6, "all; all; least 2 0; end": 6, "all; all; least 2 3; end": 6, "all; least 1 2; end": 6, "all; least 1 0; end": 6,
		"all; all; least 2 18446744073709551615; end": 6, "all; least 2 1; end": 7, "all; least 2 2; end": 7, "least 1 1; end": 7, "all; all; least 3 1; end": 7,
		"all; least 18446744073709551615 1; end": 7, "all; least 18446744073709551615 18446744073709551615; end": 7, "all; least 9223372036854775808 1; end": 7, "all; least 4294967297 1; end": 7,
	}
	for text, rule := range alone {
		wantBroken(t, text, plain(text), rule)
	}
}

// needs are what must be on the stack for each operation but OpEnd, with operands that may be.
var needs = map[string]int{
	"none": 0, "all": 0, "has 0": 0, "term 0 5": 0, "phrase 0 5": 0, "and": 2, "or": 2, "max": 2, "opt": 2, "except": 2, "not": 1, "scale 3": 1, "fix 3": 1,
	"least 1 1": 1, "least 2 1": 2, "least 3 3": 3, "least 7 2": 7, "miss 0": 1, "hit 0": 1,
}

// P21.1: the rule 7: each operation over stacks that are too low for it, just high enough, and higher. All of them leave one value in the place of what they need.
func TestStacks(t *testing.T) {
	for text, need := range needs {
		for height := range 12 {
			behind := height - need + 1
			p := oneMore(1)
			p.Code = code(strings.Repeat("all; ", height) + text + strings.Repeat("; or", max(0, behind-1)) + "; end")
			if height < need {
				wantBroken(t, text, p, 7)
				continue
			}
			var heights []int
			for i := range height + 1 {
				heights = append(heights, i)
			}
			for i := behind; i >= 1; i-- {
				heights = append(heights, i)
			}
			wantGood(t, p, heights)
		}
	}
}

// P21.1: the height ahead of the end.
func TestHeightAheadOfTheEnd(t *testing.T) {
	wantBroken(t, "0", plain("end"), 7)
	for n := 1; n < 40; n++ {
		p := oneMore(1, repeated(api.Instr{Op: api.OpAll}, n)...)
		if n == 1 {
			wantGood(t, p, []int{0, 1})
		} else {
			wantBroken(t, "2 and more", p, 7)
		}
	}
	wantBroken(t, "2 behind others", plain("all; all; and; term 0 5; not; end"), 7)
	wantBroken(t, "2 by a skip too", plain("all; all; hit 1; not; end"), 7)
	wantBroken(t, "2 by a skip alone", plain("all; all; hit 1; and; end"), 7)
	wantBroken(t, "2 by the way ahead alone", plain("all; miss 1; all; end"), 7)
}
