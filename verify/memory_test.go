package verify_test

import (
	"fmt"
	"runtime"
	"slices"
	"strings"
	"testing"
	"unsafe"

	"concord/api"
	"concord/verify"
)

// room is a piece of memory: from its first byte up to the one behind its last.
type room struct{ from, to uintptr }

// listRoom is the memory of a list, spare room included.
func listRoom[E any](list []E) []room {
	if cap(list) == 0 {
		return nil
	}
	from := uintptr(unsafe.Pointer(unsafe.SliceData(list)))
	return []room{{from, from + uintptr(cap(list))*unsafe.Sizeof(*new(E))}}
}

// progRooms is the memory of a program's lists and texts.
func progRooms(p api.Prog) []room {
	out := slices.Concat(listRoom(p.Avgs), listRoom(p.Cursors), listRoom(p.Nears), listRoom(p.Drive), listRoom(p.Code))
	for _, c := range p.Cursors {
		if c.Term != "" {
			out = append(out, listRoom(unsafe.Slice(unsafe.StringData(c.Term), len(c.Term)))...)
		}
	}
	for _, n := range p.Nears {
		out = slices.Concat(out, listRoom(n.Cursors), listRoom(n.Offs))
	}
	return out
}

// wantOwn says that the memory of a list is shared with none of these pieces.
func wantOwn(t *testing.T, what string, list []int, others []room) {
	t.Helper()
	for _, own := range listRoom(list) {
		for _, other := range others {
			if own.from < other.to && other.from < own.to {
				t.Fatalf("%.300s: two pieces of memory share some", what)
			}
		}
	}
}

// spared is a list with spare room, in which the last one stands twice.
func spared[E any](list []E, last E) []E {
	return append(append(make([]E, 0, len(list)+2), list...), last, last)[:len(list)]
}

// lender hands out texts in memory of its own, and keeps hold of it.
type lender struct {
	texts [][]byte
}

func (l *lender) text(s string) string {
	if s == "" {
		return ""
	}
	own := []byte(s)
	l.texts = append(l.texts, own)
	return unsafe.String(&own[0], len(own))
}

// overwrite writes into all texts that were handed out.
func (l *lender) overwrite() {
	for _, text := range l.texts {
		for i := range text {
			text[i] = '#'
		}
	}
}

// lent is a program in memory of its own, with spare room in which stands what no good program has.
func (l *lender) lent(p api.Prog) api.Prog {
	p.Avgs, p.Cursors, p.Nears, p.Drive, p.Code = spared(p.Avgs, -5), spared(p.Cursors, api.Leaf{Field: -5}), spared(p.Nears, api.Near{Slop: -5}), spared(p.Drive, -5), spared(p.Code, 17)
	for i := range p.Cursors {
		p.Cursors[i].Term = l.text(p.Cursors[i].Term)
	}
	for i, n := range p.Nears {
		p.Nears[i].Cursors, p.Nears[i].Offs = spared(n.Cursors, -5), spared(n.Offs, -5)
	}
	return p
}

// fill writes one value all over a list, spare room included.
func fill[E any](list []E, v E) {
	for i := range list[:cap(list)] {
		list[:cap(list)][i] = v
	}
}

// spoil writes into all lists of a program, spare room included.
func spoil(p api.Prog) {
	for _, n := range p.Nears {
		fill(n.Cursors, -444)
		fill(n.Offs, -333)
	}
	fill(p.Avgs, -222)
	fill(p.Drive, -111)
	fill(p.Code, 255)
	fill(p.Cursors, api.Leaf{Field: -777, Term: "spoilt"})
	fill(p.Nears, api.Near{Slop: -777})
}

// whole is a program with the spare room of its lists as well, told as a text.
func whole(p api.Prog) string {
	out := fmt.Sprintf("%q", []any{p.Avgs[:cap(p.Avgs)], p.Cursors[:cap(p.Cursors)], p.Nears[:cap(p.Nears)], p.All, p.Drive[:cap(p.Drive)], p.Code[:cap(p.Code)]})
	for _, n := range p.Nears {
		out += fmt.Sprint(n.Cursors[:cap(n.Cursors)], n.Offs[:cap(n.Offs)], n.Slop)
	}
	return out
}

// shared are programs, good and not, in which one list or one text stands at several places.
func shared() []api.Prog {
	text, list := strings.Repeat("ab", 2), []int{0, 1, 2}
	cursors := []api.Leaf{{Term: text}, {Term: text[1:]}, {Term: text}}
	near := api.Near{Cursors: list, Offs: list, Slop: 1}
	return []api.Prog{
		{Avgs: list, Cursors: cursors, Nears: []api.Near{near, near}, Drive: list, Code: code("phrase 1 0; hit 0; end")},
		{Avgs: list[:1], Cursors: cursors[:2], Nears: []api.Near{{Cursors: list[:2], Offs: list[1:]}}, Drive: list[1:2], Code: code("term 1 0; all; max; end")},
		{Avgs: list, Cursors: cursors, Nears: []api.Near{near}, All: true, Drive: list, Code: code("all; end")},
		{Avgs: list[:0], Cursors: cursors[:0], Drive: list[:0], Code: code("all; end")[:0]},
	}
}

// held are programs of all sorts, good and not.
func held() []api.Prog {
	out := append(shared(), wide())
	for _, text := range []string{"", "all; end", "all; all; end", "term 0 5; miss 2; all; and; end", "all; miss 1; all; and; end"} {
		out = append(out, plain(text))
	}
	m := newMaker(240)
	for range 600 {
		p := m.program(12)
		out = append(out, p, m.spoilTables(p), m.spoilCode(p))
	}
	return out
}

// wantAsModel says that these answers are those that the model gives of a program.
func wantAsModel(t *testing.T, p api.Prog, proof api.Proof, heights []int) {
	t.Helper()
	broken, want := model(p)
	if broken == nil && (!slices.Equal(heights, want) || proof != api.Proof{Length: len(want), Height: slices.Max(want)}) {
		t.Fatalf("of %s the answers are %v and %.300v, not %.300v", brief(p), proof, heights, want)
	}
	if broken != nil && (len(heights) != 0 || proof != api.Proof{}) {
		t.Fatalf("of %s, which isn't good, the answers are %v and %.300v", brief(p), proof, heights)
	}
}

// Rule 5: programs that are handed in stay, spare room included, and aren't kept.
func TestArgumentsStay(t *testing.T) {
	for _, p := range held() {
		var l lender
		own := l.lent(p)
		before := whole(own)
		proof, _ := verify.Check(own)
		heights, _ := verify.Heights(own)
		if whole(own) != before {
			t.Fatalf("%s has become another one", brief(p))
		}
		wantOwn(t, brief(p), heights, progRooms(own))
		spoil(own)
		l.overwrite()
		wantAsModel(t, p, proof, heights)
		wantBad(t, own)
		hold(t, p)
	}
}

// Rule 5: what is written into an answer, spare room included, is seen in no program and in no other answer.
func TestAnswersAreNew(t *testing.T) {
	for _, p := range held() {
		var l lender
		own := l.lent(p)
		before := whole(own)
		first, _ := verify.Heights(own)
		second, _ := verify.Heights(own)
		wantOwn(t, brief(p), first, slices.Concat(progRooms(own), listRoom(second)))
		fill(first, 555)
		if whole(own) != before {
			t.Fatalf("what is written into an answer is seen in %s", brief(p))
		}
		proof, _ := verify.Check(own)
		third, _ := verify.Heights(own)
		wantAsModel(t, p, proof, second)
		wantAsModel(t, p, proof, third)
		runtime.KeepAlive(first)
	}
}

// Rule 5: what stands in the spare room of a program says nothing.
func TestSpareRoomIsNotAsked(t *testing.T) {
	for _, p := range held() {
		var l lender
		own := l.lent(p)
		proof, _ := verify.Check(own)
		heights, _ := verify.Heights(own)
		wantAsModel(t, p, proof, heights)
	}
}

// Rule 6: nil and empty lists mean the same.
func TestEmptyLists(t *testing.T) {
	empty := api.Prog{Avgs: []int{0}, Cursors: []api.Leaf{}, Nears: []api.Near{}, Drive: []int{}, Code: code("all; end")}
	without := api.Prog{Avgs: []int{0}, Code: code("all; end")}
	for _, all := range []bool{false, true} {
		empty.All, without.All = all, all
		wantGood(t, empty, []int{0, 1})
		wantGood(t, without, []int{0, 1})
	}
	wantBad(t, api.Prog{Avgs: []int{}, Code: empty.Code})
	wantBad(t, api.Prog{Avgs: []int{0}, Code: []byte{}})
	wantBad(t, api.Prog{})
}

// Rule 7: asked again, and with other programs between, alike.
func TestAskedAgain(t *testing.T) {
	programs := held()
	for i, p := range programs {
		hold(t, p)
		verify.Check(programs[len(programs)-1-i])
		verify.Heights(programs[i*7%len(programs)])
		hold(t, p)
	}
}
