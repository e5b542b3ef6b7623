package isa_test

import (
	"fmt"
	"math"
	"slices"
	"strings"
	"testing"

	"concord/api"
	"concord/isa"
)

// P20.3: written out, there and back.
func TestListings(t *testing.T) {
	for want, p := range programs() {
		if text, err := isa.Text(p); text != want || err != nil {
			t.Errorf("Text(%+v) is %q and %v, not %q", p, text, err, want)
		}
		if q, n, err := isa.Read(want); !alike(p, q) || n != 0 || err != nil {
			t.Errorf("Read(%q) is %+v, %d and %v, not %+v", want, q, n, err, p)
		}
		holdText(t, p)
		holdRead(t, want)
	}
}

// P20.3: programs with each part empty, and not.
func TestPartsEmpty(t *testing.T) {
	for bits := range 1 << 6 {
		p, lines := full(), strings.SplitAfter(fullText, "\n")
		var want []string
		keep := func(bit, from, to int) bool {
			if bits>>bit&1 == 0 {
				return false
			}
			want = append(want, lines[from:to]...)
			return true
		}
		if !keep(0, 0, 1) {
			p.Avgs = nil
			want = append(want, "avgs\n")
		}
		if !keep(1, 1, 4) {
			p.Cursors = []api.Leaf{}
		}
		if !keep(2, 4, 7) {
			p.Nears = nil
		}
		p.All = keep(3, 7, 8)
		if !keep(4, 8, 9) {
			p.Drive = []int{}
		}
		if !keep(5, 9, 14) {
			p.Code = nil
		}
		if text, err := isa.Text(p); text != strings.Join(want, "") || err != nil {
			t.Errorf("Text(%+v) is %q and %v", p, text, err)
		}
		holdText(t, p)
	}
}

// P20.3: nil and empty lists are listed alike.
func TestEmptyLists(t *testing.T) {
	empty := api.Prog{Avgs: []int{}, Cursors: []api.Leaf{}, Nears: []api.Near{{Cursors: []int{}, Offs: nil}, {Cursors: nil, Offs: []int{}}}, Drive: []int{}, Code: []byte{}}
	if text, err := isa.Text(empty); text != "avgs\nnear 0\nnear 0\n" || err != nil {
		t.Errorf("Text of empty lists is %q and %v", text, err)
	}
}

// quotedByte is a byte as a listing has it between the quotes.
func quotedByte(c int) string {
	if c < ' ' || c > '~' || c == '"' || c == '\\' {
		return fmt.Sprintf(`\%x%x`, c/16, c%16)
	}
	return string([]byte{byte(c)})
}

// P20.3: terms of every byte, by itself and beside others.
func TestTermsOfEveryByte(t *testing.T) {
	whole, wholeQuoted := "", ""
	for c := range 256 {
		b := string([]byte{byte(c)})
		whole, wholeQuoted = whole+b, wholeQuoted+quotedByte(c)
		for _, around := range []string{"X", "aX", "Xa", "XX", "\x00X", "X7f", " X", "X ", `\X`, `X"`} {
			var quoted string
			for _, o := range []byte(around) {
				if o == 'X' {
					quoted += quotedByte(c)
				} else {
					quoted += quotedByte(int(o))
				}
			}
			p := api.Prog{Cursors: []api.Leaf{{Field: 4, Term: strings.ReplaceAll(around, "X", b)}, {Term: b}}}
			want := "avgs\ncursor 4 \"" + quoted + "\"\ncursor 0 \"" + quotedByte(c) + "\"\n"
			if text, err := isa.Text(p); text != want || err != nil {
				t.Errorf("Text(%+v) is %q and %v, not %q", p, text, err, want)
			}
			holdText(t, p)
		}
	}
	p := api.Prog{Cursors: []api.Leaf{{Term: whole}}}
	if text, err := isa.Text(p); text != "avgs\ncursor 0 \""+wholeQuoted+"\"\n" || err != nil {
		t.Errorf("Text of all bytes is %q and %v", text, err)
	}
	holdText(t, p)
}

// P20.3: numbers at their edges, in every place.
func TestNumbersAtTheEdges(t *testing.T) {
	for _, n := range ints {
		p := api.Prog{Avgs: []int{n, 0, n}, Cursors: []api.Leaf{{Field: n, Term: "a"}}, Nears: []api.Near{{Cursors: []int{n}, Offs: []int{0}, Slop: 0}, {Cursors: []int{0}, Offs: []int{n}}, {Slop: n}}, Drive: []int{0, n}}
		want := fmt.Sprintf("avgs %d 0 %d\ncursor %d \"a\"\nnear 0 %d+0\nnear 0 0+%d\nnear %d\ndrive 0 %d\n", n, n, n, n, n, n, n)
		if text, err := isa.Text(p); text != want || err != nil {
			t.Errorf("Text(%+v) is %q and %v, not %q", p, text, err, want)
		}
		holdText(t, p)
	}
	for op, row := range table {
		for _, v := range edges {
			told := []uint64{uint64(op), v, v}[:row.args+1]
			want := "avgs\n" + row.name + strings.Repeat(fmt.Sprint(" ", v), row.args) + "\n"
			p := api.Prog{Code: code(told)}
			if text, err := isa.Text(p); text != want || err != nil {
				t.Errorf("Text(%+v) is %q and %v, not %q", p, text, err, want)
			}
			holdText(t, p)
		}
	}
}

// cannot are programs that can't be listed, each for one reason alone, by that reason.
func cannot() map[string]api.Prog {
	out := map[string]api.Prog{}
	spoil := func(reason string, change func(p *api.Prog)) {
		p := full()
		change(&p)
		out[reason] = p
	}
	for _, n := range []int{-1, -2, math.MinInt} {
		for i := range 3 {
			at := fmt.Sprint(" ", n, " at ", i)
			spoil("an average"+at, func(p *api.Prog) { p.Avgs[i] = n })
			spoil("a field"+at, func(p *api.Prog) { p.Cursors[i].Field = n })
			spoil("a slop"+at, func(p *api.Prog) { p.Nears[i].Slop = n })
			spoil("a near's cursor"+at, func(p *api.Prog) { p.Nears[2].Cursors[i] = n })
			spoil("a near's offset"+at, func(p *api.Prog) { p.Nears[2].Offs[i] = n })
		}
		for i := range 2 {
			at := fmt.Sprint(" ", n, " at ", i)
			spoil("a drive"+at, func(p *api.Prog) { p.Drive[i] = n })
			spoil("an early near's cursor"+at, func(p *api.Prog) { p.Nears[0].Cursors[i] = n })
			spoil("an early near's offset"+at, func(p *api.Prog) { p.Nears[0].Offs[i] = n })
		}
	}
	for i := range 3 {
		at := fmt.Sprint(" at ", i)
		spoil("a cursor too many"+at, func(p *api.Prog) { p.Nears[i].Cursors = append(p.Nears[i].Cursors, 0) })
		spoil("an offset too many"+at, func(p *api.Prog) { p.Nears[i].Offs = append(p.Nears[i].Offs, 0) })
	}
	for _, i := range []int{0, 2} {
		at := fmt.Sprint(" at ", i)
		spoil("no cursor"+at, func(p *api.Prog) { p.Nears[i].Cursors = nil })
		spoil("no offset"+at, func(p *api.Prog) { p.Nears[i].Offs = nil })
	}
	for _, bad := range []string{"\x11", "\xff", "\x0c", "\x04\x01", "\x03\x80\x00", "\x03\x80", "\x03\xff\xff\xff\xff\xff\xff\xff\xff\xff\x02"} {
		spoil(fmt.Sprintf("the code % x alone", bad), func(p *api.Prog) { p.Code = []byte(bad) })
		spoil(fmt.Sprintf("the code % x at the end", bad), func(p *api.Prog) { p.Code = append(p.Code, bad...) })
		spoil(fmt.Sprintf("the code % x alone in all", bad), func(p *api.Prog) { *p = api.Prog{Code: []byte(bad)} })
	}
	return out
}

// P20.3: ErrCode, and no text beside it.
func TestTextRefuses(t *testing.T) {
	for reason, p := range cannot() {
		if text, err := isa.Text(p); err != api.ErrCode || text != "" {
			t.Errorf("%s: Text is %q and %v", reason, text, err)
		}
		holdText(t, p)
	}
	for _, p := range []api.Prog{{Avgs: []int{-1}}, {Cursors: []api.Leaf{{Field: -1}}}, {Nears: []api.Near{{Slop: -1}}}, {Nears: []api.Near{{Cursors: []int{1}}}}, {Nears: []api.Near{{Offs: []int{1}}}}, {Drive: []int{-1}}, {All: true, Drive: []int{-1}}, {Nears: []api.Near{{Cursors: []int{-1}, Offs: []int{1}}}}, {Nears: []api.Near{{Cursors: []int{1}, Offs: []int{-1}}}}} {
		if text, err := isa.Text(p); err != api.ErrCode || text != "" {
			t.Errorf("Text(%+v) is %q and %v", p, text, err)
		}
	}
}

// P20.3: what lies in a list's spare room isn't looked at.
func TestSpareRoomIsNotListed(t *testing.T) {
	p := full()
	p.Avgs, p.Drive, p.Code = append(p.Avgs, -1)[:3], append(p.Drive, -1)[:2], append(p.Code, 17)[:len(p.Code)]
	p.Cursors = append(p.Cursors, api.Leaf{Field: -1})[:3]
	p.Nears = append(p.Nears, api.Near{Slop: -1})[:3]
	if text, err := isa.Text(p); text != fullText || err != nil {
		t.Errorf("Text is %q and %v", text, err)
	}
}

// P20.3: a program needn't be good to be listed.
func TestNeedNotBeGood(t *testing.T) {
	for want, p := range map[string]api.Prog{
		"avgs\ncursor 99 \"" + strings.Repeat("a", 1000) + "\"\n":                {Cursors: []api.Leaf{{Field: 99, Term: strings.Repeat("a", 1000)}}},
		"avgs" + strings.Repeat(" 1", 100) + "\nevery\ndrive 7 7 3\nterm 8 8\n":  {Avgs: slices.Repeat([]int{1}, 100), All: true, Drive: []int{7, 7, 3}, Code: code([]uint64{api.OpTerm, 8, 8})},
		"avgs\nnear 9999999999 4+9999999999\nand\nend\nleast 0 9\nend\nhit 77\n": {Nears: []api.Near{{Cursors: []int{4}, Offs: []int{9999999999}, Slop: 9999999999}}, Code: code([]uint64{api.OpAnd}, []uint64{api.OpEnd}, []uint64{api.OpLeast, 0, 9}, []uint64{api.OpEnd}, []uint64{api.OpHit, 77})},
	} {
		if text, err := isa.Text(p); text != want || err != nil {
			t.Errorf("Text(%+v) is %q and %v, not %q", p, text, err, want)
		}
		holdText(t, p)
	}
}

// P20.3: drawn programs, and such with one number or one byte of code spoilt.
func TestDrawnPrograms(t *testing.T) {
	m := newMaker(205)
	for range 5000 {
		p := m.program()
		if !holdText(t, p) {
			t.Fatalf("%+v isn't listed", p)
		}
		for _, list := range [][]int{p.Avgs, p.Drive} {
			if len(list) > 0 {
				i := m.Intn(len(list))
				was := list[i]
				list[i] = -1 - was
				holdText(t, p)
				list[i] = was
			}
		}
		if len(p.Code) > 0 {
			p.Code[m.Intn(len(p.Code))] = byte(m.Intn(256))
			holdText(t, p)
		}
	}
}

// P20.3: long listings: of very many lines, and of very long ones.
func TestLongListings(t *testing.T) {
	m := newMaker(206)
	const many = 1 << 15
	p := api.Prog{All: true}
	near := api.Near{Slop: 3}
	var list []api.Instr
	for i := range many {
		p.Avgs, p.Drive = append(p.Avgs, m.int()), append(p.Drive, i)
		p.Cursors = append(p.Cursors, api.Leaf{Field: m.int(), Term: m.term()})
		p.Nears = append(p.Nears, api.Near{Cursors: []int{i}, Offs: []int{m.int()}, Slop: i})
		near.Cursors, near.Offs = append(near.Cursors, m.int()), append(near.Offs, i)
		list = append(list, m.instruction())
	}
	p.Cursors = append(p.Cursors, api.Leaf{Term: strings.Repeat("a \n\"", many)})
	p.Nears = append(p.Nears, near)
	p.Code = mustEncode(list)
	text, err := isa.Text(p)
	if err != nil {
		t.Fatal(err)
	}
	q, n, err := isa.Read(text)
	if err != nil || n != 0 || !alike(p, q) {
		t.Fatalf("a long listing is read to another program, with %d and %v", n, err)
	}
	lines := strings.Count(text, "\n")
	if q, n, err := isa.Read(text + "every\n"); err != api.ErrSyntax || n != lines+1 || !alike(q, api.Prog{}) {
		t.Errorf("a long listing with a line too many fails at %d with %v, not at %d", n, err, lines+1)
	}
	if q, n, err := isa.Read(text[:len(text)-1]); err != api.ErrSyntax || n != lines || !alike(q, api.Prog{}) {
		t.Errorf("a long listing that isn't ended fails at %d with %v, not at %d", n, err, lines)
	}
}

// smallPrograms are all programs of a few small parts.
func smallPrograms() []api.Prog {
	lists := [][]int{nil, {0}, {1}, {0, 0}, {10}, {1, 0}}
	terms := [][]api.Leaf{nil, {{Term: ""}}, {{Term: " "}}, {{Field: 1, Term: "0"}}, {{Field: 10, Term: ""}}, {{Term: `"`}}, {{Term: `\22`}}, {{Term: ""}, {Term: ""}}, {{Term: "\"\ncursor 0 \""}}}
	nears := [][]api.Near{nil, {{}}, {{}, {}}, {{Slop: 1}}, {{Cursors: []int{0}, Offs: []int{0}}}, {{Cursors: []int{0, 1}, Offs: []int{1, 0}}}, {{Cursors: []int{0, 0}, Offs: []int{1, 1}}}, {{Cursors: []int{0}, Offs: []int{1}}, {Cursors: []int{1}, Offs: []int{0}}}}
	codes := [][]byte{nil, {0}, {2}, {0, 0}, {3, 0}, {3, 1}, {4, 0, 1}, {4, 1, 0}, {16, 0}, {15, 0}, {3, 10}, {3, 1, 0}}
	var out []api.Prog
	for _, avgs := range lists {
		for _, drive := range lists {
			for _, cursors := range terms {
				for _, near := range nears {
					for _, b := range codes {
						out = append(out, api.Prog{Avgs: avgs, Drive: drive, Cursors: cursors, Nears: near, Code: b}, api.Prog{Avgs: avgs, Drive: drive, Cursors: cursors, Nears: near, Code: b, All: true})
					}
				}
			}
		}
	}
	return out
}

// P20.4: all small programs and many drawn ones, each with a listing of its own.
func TestNoListingOfTwo(t *testing.T) {
	seen := map[string]api.Prog{}
	hold := func(p api.Prog) {
		text, err := isa.Text(p)
		if err != nil {
			t.Fatalf("Text(%+v) is %v", p, err)
		}
		if q, ok := seen[text]; ok && !alike(p, q) {
			t.Fatalf("%+v and %+v have one listing, %q", p, q, text)
		}
		seen[text] = p
	}
	small := smallPrograms()
	for _, p := range small {
		hold(p)
	}
	if len(seen) != len(small) {
		t.Errorf("%d unlike programs have %d listings", len(small), len(seen))
	}
	m := newMaker(207)
	for range 20000 {
		hold(m.program())
	}
}

// P20.4: drawn programs, and the same with one field changed.
func TestOneFieldChanged(t *testing.T) {
	m := newMaker(208)
	for range 5000 {
		p := m.program()
		text, err := isa.Text(p)
		if err != nil {
			t.Fatal(err)
		}
		for _, q := range m.changed(p) {
			other, err := isa.Text(q)
			if err != nil {
				t.Fatalf("Text(%+v) is %v", q, err)
			}
			if (other == text) != alike(p, q) {
				t.Fatalf("%+v and %+v have the listings %q and %q", p, q, text, other)
			}
		}
	}
}

// changed are programs that are like a program but for one field each, or for nothing.
func (m maker) changed(p api.Prog) []api.Prog {
	other := m.program()
	a, b, c, d, e, f := p, p, p, p, p, p
	a.Avgs, b.Cursors, c.Nears, d.All, e.Drive, f.Code = other.Avgs, other.Cursors, other.Nears, !p.All, other.Drive, other.Code
	out := []api.Prog{p, a, b, c, d, e, f}
	if len(p.Cursors) > 0 {
		one, two := p, p
		one.Cursors, two.Cursors = slices.Clone(p.Cursors), slices.Clone(p.Cursors)
		one.Cursors[0].Field = m.int()
		two.Cursors[0].Term = m.term()
		out = append(out, one, two)
	}
	if len(p.Nears) > 0 {
		one, two := p, p
		one.Nears, two.Nears = slices.Clone(p.Nears), slices.Clone(p.Nears)
		one.Nears[0].Slop = m.int()
		two.Nears[0].Cursors, two.Nears[0].Offs = two.Nears[0].Offs, two.Nears[0].Cursors
		out = append(out, one, two)
	}
	if len(p.Avgs) > 0 {
		one, two := p, p
		one.Avgs = append(slices.Clone(p.Avgs), 0)
		two.Avgs = p.Avgs[1:]
		out = append(out, one, two)
	}
	return out
}
