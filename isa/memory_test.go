package isa_test

import (
	"bytes"
	"fmt"
	"runtime"
	"slices"
	"strings"
	"testing"
	"unsafe"

	"concord/api"
	"concord/isa"
)

// room is a piece of memory: from its first byte up to the one behind its last.
type room struct{ from, to uintptr }

// textRoom is the memory of a text. Texts of one byte may be those that the language keeps, which nobody writes.
func textRoom(s string) []room {
	if len(s) < 2 {
		return nil
	}
	from := uintptr(unsafe.Pointer(unsafe.StringData(s)))
	return []room{{from, from + uintptr(len(s))}}
}

// listRoom is the memory of a list, spare room included.
func listRoom[E any](list []E) []room {
	if cap(list) == 0 {
		return nil
	}
	from := uintptr(unsafe.Pointer(unsafe.SliceData(list)))
	return []room{{from, from + uintptr(cap(list))*unsafe.Sizeof(*new(E))}}
}

func progRooms(p api.Prog) []room {
	out := slices.Concat(listRoom(p.Avgs), listRoom(p.Cursors), listRoom(p.Nears), listRoom(p.Drive), listRoom(p.Code))
	for _, c := range p.Cursors {
		out = append(out, textRoom(c.Term)...)
	}
	for _, n := range p.Nears {
		out = slices.Concat(out, listRoom(n.Cursors), listRoom(n.Offs))
	}
	return out
}

// wantApart says that no two pieces of memory share any.
func wantApart(t *testing.T, what string, rooms []room) {
	t.Helper()
	rooms = slices.Clone(rooms)
	slices.SortFunc(rooms, func(a, b room) int { return int(a.from) - int(b.from) })
	for i := 1; i < len(rooms); i++ {
		if rooms[i].from < rooms[i-1].to {
			t.Fatalf("%.200s: two pieces of memory share some", what)
		}
	}
}

// lender hands out texts in memory of its own, and keeps hold of it.
type lender struct {
	texts [][]byte
}

func (l *lender) text(s string) string {
	if s == "" {
		return ""
	}
	own := []byte(s)
	l.texts = append(l.texts, own)
	return unsafe.String(&own[0], len(own))
}

// overwrite writes into all texts that were handed out.
func (l *lender) overwrite() {
	for _, text := range l.texts {
		for i := range text {
			text[i] = '#'
		}
	}
}

// spared is a list with spare room, in which the last one stands twice.
func spared[E any](list []E, last E) []E {
	return append(append(make([]E, 0, len(list)+2), list...), last, last)[:len(list)]
}

// program is a program in memory of its own, with spare room.
func (l *lender) program(p api.Prog) api.Prog {
	p.Avgs, p.Cursors, p.Nears, p.Drive, p.Code = spared(p.Avgs, 555), spared(p.Cursors, api.Leaf{Field: 555}), spared(p.Nears, api.Near{Slop: 555}), spared(p.Drive, 555), spared(p.Code, 17)
	for i := range p.Cursors {
		p.Cursors[i].Term = l.text(p.Cursors[i].Term)
	}
	for i, n := range p.Nears {
		p.Nears[i].Cursors, p.Nears[i].Offs = spared(n.Cursors, 555), spared(n.Offs, 555)
	}
	return p
}

// fill writes one value all over a list, spare room included.
func fill[E any](list []E, v E) {
	for i := range list[:cap(list)] {
		list[:cap(list)][i] = v
	}
}

// spoil writes into all lists of a program.
func spoil(p api.Prog) {
	for _, n := range p.Nears {
		fill(n.Cursors, 444)
		fill(n.Offs, 333)
	}
	fill(p.Avgs, 222)
	fill(p.Drive, 111)
	fill(p.Code, 1)
	fill(p.Cursors, api.Leaf{Field: 777, Term: "spoilt"})
	fill(p.Nears, api.Near{Slop: 777})
}

// whole is a program with the spare room of its lists as well, told as a text.
func whole(p api.Prog) string {
	out := fmt.Sprintf("%q", []any{p.Avgs[:cap(p.Avgs)], p.Cursors[:cap(p.Cursors)], p.Nears[:cap(p.Nears)], p.All, p.Drive[:cap(p.Drive)], p.Code[:cap(p.Code)]})
	for _, n := range p.Nears {
		out += fmt.Sprint(n.Cursors[:cap(n.Cursors)], n.Offs[:cap(n.Offs)], n.Slop)
	}
	return out
}

// shared are programs in which one list and one text stand at several places.
func shared() []api.Prog {
	text, list := strings.Repeat("ab", 2), []int{1, 0, 2, 2}
	leaf, near := api.Leaf{Field: 1, Term: text}, api.Near{Cursors: list, Offs: list, Slop: 1}
	cursors, nears := []api.Leaf{leaf, {Field: 2, Term: text[:2]}, leaf, {Field: 3, Term: text[1:]}}, []api.Near{near, near, {Cursors: list[:2], Offs: list[2:]}, near}
	return []api.Prog{
		{Avgs: list, Cursors: cursors, Nears: nears, Drive: list, Code: []byte{2, 0}},
		{Avgs: list[:1], Cursors: cursors[:2], Nears: nears[:1], Drive: list[1:], All: true},
		{Avgs: list[:0], Cursors: cursors[:0], Nears: nears[:0], Drive: list[:0]},
		{Nears: []api.Near{{Cursors: list[:1], Offs: list[1:2]}, {Cursors: list[2:2], Offs: list[3:3]}}},
	}
}

// held are programs of all sorts, among them such as can't be listed.
func held() []api.Prog {
	out := shared()
	for _, p := range programs() {
		out = append(out, p)
	}
	for _, p := range cannot() {
		out = append(out, p)
	}
	m := newMaker(210)
	for range 500 {
		out = append(out, m.program())
	}
	return out
}

// Rule 5: programs and texts that are handed in stay, spare room included, and aren't kept.
func TestArgumentsStay(t *testing.T) {
	for _, p := range held() {
		var l lender
		own := l.program(p)
		before := whole(own)
		text, err := isa.Text(own)
		if whole(own) != before {
			t.Fatalf("%+v has become another one", p)
		}
		wantApart(t, text, slices.Concat(progRooms(own), textRoom(text)))
		spoil(own)
		l.overwrite()
		want, ok := modelText(p)
		if text != want || ok != (err == nil) {
			t.Fatalf("with the program overwritten its listing is %q, else %q", text, want)
		}
		if !ok {
			continue
		}
		lent := l.text(text)
		q, _, err := isa.Read(lent)
		if err != nil || lent != want {
			t.Fatalf("%q is refused, or has become another one", want)
		}
		wantApart(t, text, slices.Concat(progRooms(q), textRoom(lent)))
		l.overwrite()
		if !alike(p, q) {
			t.Fatalf("with the listing %q overwritten the program is %+v", want, q)
		}
	}
}

// Rule 5: bytes and instructions that are handed in stay, spare room included, and aren't kept.
func TestCodeArgumentsStay(t *testing.T) {
	m := newMaker(211)
	for range 2000 {
		list := m.instructions(6)
		if m.Intn(4) == 0 {
			list = append(list, api.Instr{Op: m.Intn(20), A: m.operand(), B: m.operand()})
		}
		own := spared(list, api.Instr{Op: 555, A: 5})
		before := slices.Clone(own[:cap(own)])
		b, err := isa.Encode(own)
		if !slices.Equal(own[:cap(own)], before) {
			t.Fatalf("%v has become another list", list)
		}
		fill(own, api.Instr{Op: api.OpNone})
		if want, ok := modelEncode(list); !bytes.Equal(b, want) || ok != (err == nil) {
			t.Fatalf("with %v overwritten the bytes are % x", list, b)
		}
		lent := spared(append(b, byte(m.Intn(20)))[:len(b)+m.Intn(2)], 17)
		full, kept := bytes.Clone(lent[:cap(lent)]), bytes.Clone(lent)
		got, err := isa.Decode(lent)
		if !bytes.Equal(lent[:cap(lent)], full) {
			t.Fatalf("% x have become other bytes", kept)
		}
		fill(lent, 1)
		if want, ok := modelDecode(kept); !slices.Equal(got, want) || ok != (err == nil) {
			t.Fatalf("with % x overwritten the instructions are %v", kept, got)
		}
	}
}

// Rule 5: what is handed out is new memory, each time and in each of its lists; what is written there isn't seen.
func TestAnswersAreNew(t *testing.T) {
	for _, p := range held() {
		want, ok := modelText(p)
		if !ok {
			continue
		}
		first, firstErr := isa.Text(p)
		second, secondErr := isa.Text(p)
		a, _, errA := isa.Read(want)
		b, _, errB := isa.Read(want)
		if firstErr != nil || secondErr != nil || errA != nil || errB != nil {
			t.Fatalf("%q is refused", want)
		}
		wantApart(t, want, slices.Concat(progRooms(a), progRooms(b), textRoom(first), textRoom(second), textRoom(want)))
		spoil(a)
		if !alike(b, p) {
			t.Fatalf("what is written into one answer to %q is seen in another", want)
		}
		if c, _, err := isa.Read(want); err != nil || !alike(c, p) {
			t.Fatalf("what is written into an answer to %q is seen by the next call", want)
		}
	}
}

// Rule 5: so are bytes, instructions and names.
func TestCodeAnswersAreNew(t *testing.T) {
	m := newMaker(212)
	for range 2000 {
		list := m.instructions(6)
		a, _ := isa.Encode(list)
		b, _ := isa.Encode(list)
		c, _ := isa.Decode(b)
		d, _ := isa.Decode(b)
		wantApart(t, fmt.Sprint(list), slices.Concat(listRoom(list), listRoom(a), listRoom(b), listRoom(c), listRoom(d)))
		fill(a, 1)
		fill(c, api.Instr{Op: api.OpNone})
		if !bytes.Equal(b, mustEncode(list)) || !slices.Equal(d, list) {
			t.Fatalf("what is written into one answer to %v is seen in another", list)
		}
		holdEncode(t, list)
	}
	var names []string
	var rooms []room
	for i := range 2 * len(table) {
		name, _ := isa.Name(i / 2)
		names = append(names, name)
		rooms = append(rooms, textRoom(name)...)
	}
	wantApart(t, strings.Join(names, " "), rooms)
	runtime.KeepAlive(names)
}

// Rule 7: asked again, and with other calls between, alike.
func TestAskedAgain(t *testing.T) {
	for text := range programs() {
		for bad := range fails() {
			isa.Read(bad)
		}
		holdRead(t, text)
		isa.Text(api.Prog{Code: []byte{17}})
		isa.Decode([]byte{3})
		holdRead(t, text)
	}
}
