package vm_test

import (
	"bytes"
	"fmt"
	"math"
	"slices"
	"testing"
	"unsafe"

	"concord/api"
	"concord/vm"
)

// room is a piece of memory: from its first byte up to the one behind its last.
type room struct{ from, to uintptr }

// listRoom is the memory of a list, spare room included.
func listRoom[E any](list []E) []room {
	if cap(list) == 0 {
		return nil
	}
	from := uintptr(unsafe.Pointer(unsafe.SliceData(list)))
	return []room{{from, from + uintptr(cap(list))*unsafe.Sizeof(*new(E))}}
}

// progRooms is the memory of a program's lists.
func progRooms(p api.Prog) []room {
	out := slices.Concat(listRoom(p.Avgs), listRoom(p.Cursors), listRoom(p.Nears), listRoom(p.Drive), listRoom(p.Code))
	for _, n := range p.Nears {
		out = slices.Concat(out, listRoom(n.Cursors), listRoom(n.Offs))
	}
	return out
}

// wantOwn says that the memory of a list is shared with none of these pieces.
func wantOwn(t *testing.T, what string, list []api.Hit, others []room) {
	t.Helper()
	for _, own := range listRoom(list) {
		for _, other := range others {
			if own.from < other.to && other.from < own.to {
				t.Fatalf("%.300s: two pieces of memory share some", what)
			}
		}
	}
}

// spared is a list with spare room, in which the last one stands twice.
func spared[E any](list []E, last E) []E {
	return append(append(make([]E, 0, len(list)+2), list...), last, last)[:len(list)]
}

// lender hands out texts in memory of its own, and keeps hold of it.
type lender struct {
	texts [][]byte
}

func (l *lender) text(s string) string {
	if s == "" {
		return ""
	}
	own := []byte(s)
	l.texts = append(l.texts, own)
	return unsafe.String(&own[0], len(own))
}

// overwrite writes into all texts that were handed out.
func (l *lender) overwrite() {
	for _, text := range l.texts {
		for i := range text {
			text[i] = '#'
		}
	}
}

// lent is a program in memory of its own, with spare room in which stands what no good program has.
func (l *lender) lent(p api.Prog) api.Prog {
	p.Avgs, p.Cursors, p.Nears, p.Drive, p.Code = spared(p.Avgs, -5), spared(p.Cursors, api.Leaf{Field: -5}), spared(p.Nears, api.Near{Slop: -5}), spared(p.Drive, -5), spared(p.Code, 17)
	for i := range p.Cursors {
		p.Cursors[i].Term = l.text(p.Cursors[i].Term)
	}
	for i, n := range p.Nears {
		p.Nears[i].Cursors, p.Nears[i].Offs = spared(n.Cursors, -5), spared(n.Offs, -5)
	}
	return p
}

// fill writes one value all over a list, spare room included.
func fill[E any](list []E, v E) {
	for i := range list[:cap(list)] {
		list[:cap(list)][i] = v
	}
}

// spoil writes into all lists of a program, spare room included: with what could still be asked for, and with what could not.
func spoil(p api.Prog, with int) {
	for _, n := range p.Nears {
		fill(n.Cursors, with)
		fill(n.Offs, with)
	}
	fill(p.Avgs, with)
	fill(p.Drive, with)
	fill(p.Code, byte(with))
	fill(p.Cursors, api.Leaf{Field: with, Term: "spoilt"})
	fill(p.Nears, api.Near{Slop: with})
}

// whole is a program with the spare room of its lists as well, told as a text.
func whole(p api.Prog) string {
	out := fmt.Sprintf("%q", []any{p.Avgs[:cap(p.Avgs)], p.Cursors[:cap(p.Cursors)], p.Nears[:cap(p.Nears)], p.All, p.Drive[:cap(p.Drive)], p.Code[:cap(p.Code)]})
	for _, n := range p.Nears {
		out += fmt.Sprint(n.Cursors[:cap(n.Cursors)], n.Offs[:cap(n.Offs)], n.Slop)
	}
	return out
}

// eachHeld goes through programs of all sorts, each with a part over which it may run.
func eachHeld(t *testing.T, do func(p api.Prog, over made)) {
	t.Helper()
	over := texts(t, "a b", "", "b a", "!a b", "a a b a", "b b", "a b")
	list := []int{0, 1}
	leaves := []api.Leaf{{Term: "a"}, {Term: "b"}}
	near := api.Near{Cursors: list, Offs: list}
	code := codeOf(t, "phrase 0 3; phrase 1 1000; term 0 5; least 3 1; end")
	// One list may stand at several places.
	do(api.Prog{Avgs: list[1:], Cursors: leaves, Nears: []api.Near{near, near}, Drive: list, Code: code}, over)
	do(api.Prog{Avgs: list[:1], Cursors: leaves, Nears: []api.Near{near, {Cursors: list[1:], Offs: list[:1]}}, Drive: list[:0], All: true, Code: code}, over)
	m := newMaker(235)
	for range 60 {
		s, cut := m.cut(t, 1)
		for range 10 {
			do(m.program(len(s.Fields), 20), cut[0])
		}
	}
}

// codeOf is the bytes of instructions, told as in a listing.
func codeOf(t testing.TB, code string) []byte {
	return read(t, "avgs; "+code).Code
}

// Rule 5: a program that is handed in stays as it was, spare room included, in New, in Run, and while it runs.
func TestProgramsStay(t *testing.T) {
	eachHeld(t, func(p api.Prog, over made) {
		var l lender
		own := l.lent(p)
		before := whole(own)
		hold(t, own, over, kinds{})
		if whole(own) != before {
			t.Fatalf("%s has become another one", brief(p))
		}
	})
}

// Rule 5: a program isn't kept: what is written into its lists and texts behind New changes nothing, at the beginning, between the calls and at the end.
func TestProgramsAreNotKept(t *testing.T) {
	eachHeld(t, func(p api.Prog, over made) {
		want := newModel(p, over, kinds{}).run()
		for _, behind := range []int{0, 1, len(want) / 2, len(want)} {
			for _, with := range []int{0, 1, -7} {
				var l lender
				own := l.lent(p)
				m := mustNew(t, own, over)
				for i := range len(want) + 2 {
					if i == behind {
						spoil(own, with)
						l.overwrite()
					}
					wantNext(t, p, m, want[min(i, len(want)-1)])
				}
			}
		}
	})
}

// Rule 5: what a run tells is new memory: what is written into it, spare room included, is seen in no other answer and in no program.
func TestHitsAreNew(t *testing.T) {
	shared := 0
	eachHeld(t, func(p api.Prog, over made) {
		want := runOf(newModel(p, over, kinds{}).run())
		before := whole(p)
		m := mustNew(t, p, over)
		first, err := vm.Run(p, over.part, want.Steps)
		second, err2 := vm.Run(p, over.part, math.MaxInt)
		if err != nil || err2 != nil {
			t.Fatalf("%s: %v, %v", brief(p), err, err2)
		}
		wantOwn(t, brief(p), first.Hits, append(progRooms(p), listRoom(second.Hits)...))
		wantOwn(t, brief(p), second.Hits, progRooms(p))
		fill(first.Hits, api.Hit{Id: -1, Score: 77})
		third, _ := vm.Run(p, over.part, want.Steps)
		if !alikeRuns(second, want) || !alikeRuns(third, want) || whole(p) != before {
			t.Fatalf("%s: with one answer overwritten others are %v and %v, not %v", brief(p), second, third, want)
		}
		for _, w := range newModel(p, over, kinds{}).run() {
			wantNext(t, p, m, w)
		}
		if len(want.Hits) > 0 {
			shared++
		}
	})
	if shared < 100 {
		t.Errorf("only %d have hits", shared)
	}
}

// Rule 4: neither does a refused call change anything, of the program or of the part.
func TestRefusedChangeNothing(t *testing.T) {
	over := texts(t, "a b", "!b", "a")
	image := over.part.Image()
	good := read(t, `avgs 1; cursor 0 "a"; cursor 0 "b"; near 0 0+0 1+1; drive 0; phrase 0 1; end`)
	for _, p := range []api.Prog{good, read(t, "avgs 1 1; all; end"), read(t, `avgs 1; cursor 0 "a"; drive 0; all; all; end`), {}} {
		var l lender
		own := l.lent(p)
		before := whole(own)
		for range 3 {
			if run, err := vm.Run(own, over.part, 1); err == nil || !alikeRuns(run, api.Run{}) {
				t.Errorf("%s: %v, %v", brief(p), run, err)
			}
		}
		if whole(own) != before {
			t.Errorf("%s has become another one", brief(p))
		}
		hold(t, good, over, kinds{})
	}
	if !bytes.Equal(over.part.Image(), image) || over.part.Live() != 2 {
		t.Error("the part has become another one")
	}
}

// Rule 5: a part stays as it was, and cursors that are had from it apart from a machine don't go on with the machine.
func TestPartsStay(t *testing.T) {
	eachHeld(t, func(p api.Prog, over made) {
		image, dead := over.part.Image(), over.part.Dead().Members()
		var moves []int
		for _, leaf := range p.Cursors {
			c := over.part.Cursor(leaf.Field, leaf.Term)
			m := mustNew(t, p, over)
			for ok := true; ok; {
				_, ok = m.Next()
			}
			moves = append(moves, c.Moves(), c.Doc()+1)
		}
		if !bytes.Equal(over.part.Image(), image) || !slices.Equal(over.part.Dead().Members(), dead) || slices.ContainsFunc(moves, func(n int) bool { return n != 0 }) {
			t.Fatalf("%s has changed its part, or a cursor of another", brief(p))
		}
	})
}

// Rule 6: nil and empty lists mean the same.
func TestEmptyLists(t *testing.T) {
	over := texts(t, "a", "b")
	code := read(t, "avgs 1; all; end").Code
	for _, all := range []bool{true, false} {
		without := api.Prog{Avgs: []int{1}, All: all, Code: code}
		empty := api.Prog{Avgs: []int{1}, Cursors: []api.Leaf{}, Nears: []api.Near{}, All: all, Drive: []int{}, Code: code}
		if a, b := hold(t, without, over, kinds{}), hold(t, empty, over, kinds{}); !alikeRuns(a, b) {
			t.Errorf("with empty lists it tells %v, with none %v", b, a)
		}
	}
	for _, p := range []api.Prog{{}, {Avgs: []int{}, Cursors: []api.Leaf{}, Nears: []api.Near{}, Drive: []int{}, Code: []byte{}}, {Avgs: []int{1}, Code: []byte{}}} {
		if m, err := vm.New(p, over.part); m != nil || err != api.ErrCode {
			t.Errorf("New of %+v is %v", p, err)
		}
	}
}

// Rule 7: asked again, with other programs and parts between, alike.
func TestAskedAgain(t *testing.T) {
	type pair struct {
		p    api.Prog
		over made
	}
	var pairs []pair
	eachHeld(t, func(p api.Prog, over made) { pairs = append(pairs, pair{p, over}) })
	for i, x := range pairs {
		want := runOf(newModel(x.p, x.over, kinds{}).run())
		y := pairs[i*7%len(pairs)]
		for range 2 {
			if run, err := vm.Run(x.p, x.over.part, want.Steps); err != nil || !alikeRuns(run, want) {
				t.Fatalf("%s: %v, %v, not %v", brief(x.p), run, err, want)
			}
			vm.Run(y.p, y.over.part, 50)
		}
	}
}

// Rule 3: two machines over two parts may run at the same time.
func TestSideBySide(t *testing.T) {
	m := newMaker(236)
	done := make(chan string)
	for range 6 {
		s, cut := m.cut(t, 1)
		p := m.program(len(s.Fields), 30)
		want := newModel(p, cut[0], kinds{}).run()
		go func() {
			fault := ""
			for range 20 {
				machine, err := vm.New(p, cut[0].part)
				if err != nil || !slices.Equal(toldBy(machine), want) {
					fault = brief(p)
				}
			}
			done <- fault
		}()
	}
	for range 6 {
		if fault := <-done; fault != "" {
			t.Errorf("side by side, %s tells other things", fault)
		}
	}
}
