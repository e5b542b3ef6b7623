package printer_test

import (
	"math/rand"
	"slices"
	"strings"
	"testing"
	"unsafe"

	"concord/api"
	"concord/printer"
)

// room is a piece of memory: from its first byte up to the one behind its last.
type room struct{ from, to uintptr }

// textRoom is the memory of a text. Texts of one byte may be those that the language keeps, which nobody writes.
func textRoom(s string) []room {
	if len(s) < 2 {
		return nil
	}
	from := uintptr(unsafe.Pointer(unsafe.StringData(s)))
	return []room{{from, from + uintptr(len(s))}}
}

// listRoom is the memory of a list, spare room included.
func listRoom[E any](list []E) []room {
	if cap(list) == 0 {
		return nil
	}
	from := uintptr(unsafe.Pointer(unsafe.SliceData(list)))
	return []room{{from, from + uintptr(cap(list))*unsafe.Sizeof(*new(E))}}
}

// treeRooms is all memory of a tree.
func treeRooms(n api.Node) []room {
	out := slices.Concat(textRoom(n.Field), textRoom(n.Text), textRoom(n.Lo.Text), textRoom(n.Hi.Text), listRoom(n.Occur), listRoom(n.Kids))
	for _, kid := range n.Kids {
		out = append(out, treeRooms(kid)...)
	}
	return out
}

// wantApart says that no two pieces of memory share any.
func wantApart(t *testing.T, what api.Node, rooms []room) {
	t.Helper()
	slices.SortFunc(rooms, func(a, b room) int { return int(a.from) - int(b.from) })
	for i := 1; i < len(rooms); i++ {
		if rooms[i].from < rooms[i-1].to {
			t.Fatalf("%v: two pieces of what is handed out share memory", what)
		}
	}
}

// lent is a tree of texts of some bytes whose lists have spare room, all of it in memory of its own, and the bytes that its texts lie in.
func lent(n api.Node, bytes *[][]byte) api.Node {
	lend := func(s string) string {
		if s == "" {
			return ""
		}
		own := []byte(s)
		*bytes = append(*bytes, own)
		return unsafe.String(&own[0], len(own))
	}
	n.Field, n.Text, n.Lo.Text, n.Hi.Text = lend(n.Field), lend(n.Text), lend(n.Lo.Text), lend(n.Hi.Text)
	n.Occur = append(make([]int, 0, len(n.Occur)+2), n.Occur...)
	n.Kids = append(make([]api.Node, 0, len(n.Kids)+2), n.Kids...)
	for i, kid := range n.Kids {
		n.Kids[i] = lent(kid, bytes)
	}
	for i := range 2 {
		n.Occur[:cap(n.Occur)][len(n.Occur)+i] = 555
		n.Kids[:cap(n.Kids)][len(n.Kids)+i] = term("spare")
	}
	return n
}

// overwrite writes into all lists of a tree, spare room included.
func overwrite(n api.Node) {
	for _, kid := range n.Kids {
		overwrite(kid)
	}
	for i := range n.Occur[:cap(n.Occur)] {
		n.Occur[:cap(n.Occur)][i] = 444
	}
	for i := range n.Kids[:cap(n.Kids)] {
		n.Kids[:cap(n.Kids)][i] = api.Node{Kind: 333, Text: "overwritten"}
	}
}

// spareStays tells whether the spare room of a lent tree is as it was made.
func spareStays(n api.Node) bool {
	for _, occur := range n.Occur[len(n.Occur):cap(n.Occur)] {
		if occur != 555 {
			return false
		}
	}
	for _, kid := range n.Kids[len(n.Kids):cap(n.Kids)] {
		if !alike(kid, term("spare")) {
			return false
		}
	}
	return !slices.ContainsFunc(n.Kids, func(kid api.Node) bool { return !spareStays(kid) })
}

// lentTrees are trees, good ones and others, whose texts have several bytes.
func lentTrees() []api.Node {
	out := []api.Node{
		in("field", term("text")), in("field", span(within("lower"), without("upper"))), or(in("field", phrase("a phrase", 2))), list(0, " ", in("field", prefix("head"))), list(2, "+- ", in("field", term("text")), in("field", term("text")), all()),
		and(or(in("aa", wild("b?c"))), most(fuzzy("dd", 2), list(0, "  ", not(in("ee", has())), boost(3, fixed(4, term("ff")))))), not(term("aa"), term("bb")), term(""), {Kind: 99, Field: "aa", Text: "bb", Occur: []int{7}, Kids: []api.Node{{}, term("cc")}},
	}
	dice := rand.New(rand.NewSource(157))
	for range 500 {
		n := madeTree(dice, 20)
		out = append(out, n, spoilt(dice, n))
	}
	return out
}

// Rule 5: a tree that is handed in stays, spare room included, and isn't kept.
func TestTreesStay(t *testing.T) {
	for _, n := range lentTrees() {
		var bytes [][]byte
		own := lent(n, &bytes)
		err := printer.Check(own)
		canon, _ := printer.Canon(own)
		text, _ := printer.Print(own)
		printer.Nest(own)
		printer.Size(own)
		printer.Same(own, own)
		if !alike(own, n) || !spareStays(own) {
			t.Fatalf("%v has become %v", n, own)
		}
		overwrite(own)
		for _, piece := range bytes {
			for i := range piece {
				piece[i] = '#'
			}
		}
		if err != nil {
			continue
		}
		want := modelCanon(n)
		if !alike(canon, want) || text != modelPrint(want, 0).text {
			t.Fatalf("with the tree overwritten, what was told of %v is %v and %q", n, canon, text)
		}
	}
}

// Rule 5: what is handed out is new memory, and no two of its lists and texts share any.
func TestCanonSharesNothing(t *testing.T) {
	shared := in("field", span(within("field"), within("field")))
	trees := append(lentTrees(), list(0, "  ", shared, not(shared)), or(and(shared, shared), and(shared, shared)))
	for _, n := range trees {
		own := copied(n)
		first, err := printer.Canon(own)
		if err != nil {
			continue
		}
		second, _ := printer.Canon(own)
		wantApart(t, n, slices.Concat(treeRooms(own), treeRooms(first), treeRooms(second)))
		again, _ := printer.Canon(first)
		wantApart(t, n, slices.Concat(treeRooms(first), treeRooms(again)))
		overwrite(first)
		if third, _ := printer.Canon(own); !alike(second, modelCanon(n)) || !alike(third, second) || !alike(own, n) {
			t.Fatalf("with one answer overwritten, another one of %v is %v, then %v", n, second, third)
		}
	}
}

// Rule 5: one list that stands in a tree at several places becomes several.
func TestCanonOfSharedLists(t *testing.T) {
	kids := []api.Node{term("aa"), term("bb")}
	occur := []int{api.Must, api.Should}
	x := api.Node{Kind: api.NList, Kids: kids, Occur: occur}
	canon, err := printer.Canon(or(x, x, and(kids...), and(kids[:1]...)))
	if err != nil {
		t.Fatal(err)
	}
	wantApart(t, x, treeRooms(canon))
	canon.Kids[0].Kids[0].Text = "zz"
	canon.Kids[0].Occur[0] = api.MustNot
	if text, _ := printer.Print(canon); text != "(-zz bb) OR (+aa bb) OR aa AND bb OR aa" {
		t.Errorf("it is printed as %q", text)
	}
}

// Rule 5: printed forms are new memory.
func TestPrintSharesNothing(t *testing.T) {
	word := strings.Repeat("word", 10)
	for _, n := range append(lentTrees(), term(word), or(term(word))) {
		own := copied(n)
		first, err := printer.Print(own)
		if err != nil {
			continue
		}
		second, _ := printer.Print(own)
		wantApart(t, n, slices.Concat(treeRooms(own), textRoom(first), textRoom(second)))
		if first != second || !alike(own, n) {
			t.Fatalf("Print(%v) is %q, then %q", n, first, second)
		}
	}
}
