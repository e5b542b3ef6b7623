package syntax_test

import (
	"math/rand"
	"slices"
	"testing"
	"unsafe"

	"concord/api"
	"concord/lexer"
	"concord/syntax"
)

// room is a piece of memory: from its first byte up to the one behind its last.
type room struct{ from, to uintptr }

// textRoom is the memory of a text. Texts of one byte may be those that the language keeps, which nobody writes.
func textRoom(s string) []room {
	if len(s) < 2 {
		return nil
	}
	from := uintptr(unsafe.Pointer(unsafe.StringData(s)))
	return []room{{from, from + uintptr(len(s))}}
}

// listRoom is the memory of a list, spare room included.
func listRoom[E any](list []E) []room {
	if cap(list) == 0 {
		return nil
	}
	from := uintptr(unsafe.Pointer(unsafe.SliceData(list)))
	return []room{{from, from + uintptr(cap(list))*unsafe.Sizeof(*new(E))}}
}

// treeRooms is all memory of a tree.
func treeRooms(n api.Node) []room {
	out := slices.Concat(textRoom(n.Field), textRoom(n.Text), textRoom(n.Lo.Text), textRoom(n.Hi.Text), listRoom(n.Occur), listRoom(n.Kids))
	for _, kid := range n.Kids {
		out = append(out, treeRooms(kid)...)
	}
	return out
}

// wantApart says that no two pieces of memory share any.
func wantApart(t *testing.T, what string, rooms []room) {
	t.Helper()
	slices.SortFunc(rooms, func(a, b room) int { return int(a.from) - int(b.from) })
	for i := 1; i < len(rooms); i++ {
		if rooms[i].from < rooms[i-1].to {
			t.Fatalf("%q: two pieces of what is handed out share memory", what)
		}
	}
}

// Rule 5: a tree is new memory, and no two of its lists and texts share any.
func TestTreesShareNothing(t *testing.T) {
	queries := []string{
		"field:(aa bb field:(cc dd) ee*)", "aa bb cc dd ee ff", "+aa -bb cc OR dd AND ee | ff", `aa:"bb cc"~2 dd~ [ee TO "ff gg"] {hh TO ii}`, "field:(aa bb)@2 field:(*)", "field:(* ** a?b [aa TO bb])^2^=3", "NOT NOT field:((aa bb) (cc))", `long\ field:(\AND a\*b* \**)`,
	}
	dice := rand.New(rand.NewSource(148))
	for range 500 {
		queries = append(queries, "field:("+madeQuery(dice, 30)+")")
	}
	for _, q := range queries {
		first, _, err := syntax.Parse(q)
		if err != nil {
			t.Fatalf("Parse(%q): %v", q, err)
		}
		second, _, _ := syntax.Parse(q)
		wantApart(t, q, slices.Concat(treeRooms(first), treeRooms(second), textRoom(q)))
	}
}

// Rule 5: what is written into a text behind the call isn't seen.
func TestTextIsNotKept(t *testing.T) {
	const text = `field:(aa bb* c?d "ee ff"~2 gg~1 [hh TO ii])`
	want, _, err := syntax.Parse(text)
	if err != nil {
		t.Fatal(err)
	}
	lent := []byte(text)
	tree, _, err := syntax.Parse(unsafe.String(&lent[0], len(lent)))
	if err != nil || string(lent) != text {
		t.Fatalf("the text is %q, %v", lent, err)
	}
	for i := range lent {
		lent[i] = '#'
	}
	if !alike(tree, want) {
		t.Errorf("with the text overwritten the tree is %v", tree)
	}
}

// Rule 5: a tree that is written into is not seen in another one.
func TestTreesAreNew(t *testing.T) {
	const text = "+aa bb OR cc (dd ee)@2"
	want, _, _ := syntax.Parse(text)
	got, _, _ := syntax.Parse(text)
	got.Occur[0], got.Kids[0] = api.MustNot, has()
	got.Kids[1].Kids[0].Text = "zz"
	_ = append(got.Kids[2].Kids[:1], all())
	again, _, _ := syntax.Parse(text)
	if !alike(again, want) {
		t.Errorf("with a tree overwritten another one is %v", again)
	}
}

// Rule 5: a row isn't changed, spare room included, nor kept; what Follow answers is new.
func TestFollowSharesNothing(t *testing.T) {
	tokens, _, _ := lexer.Scan("t:(a OR b~1)@2 *:* [x TO y]^2")
	for i := range len(tokens) + 1 {
		row := slices.Grow(slices.Clone(tokens), 8)
		whole := row[:cap(row)]
		before := slices.Clone(whole)
		first := syntax.Follow(row[:i])
		want := slices.Clone(first)
		if !slices.Equal(whole, before) {
			t.Fatalf("Follow of %d tokens changed them", i)
		}
		second := syntax.Follow(row[:i])
		wantApart(t, "Follow", slices.Concat(listRoom(first), listRoom(second), listRoom(row)))
		for j := range second[:cap(second)] {
			second[:cap(second)][j] = -7
		}
		clear(whole)
		if !slices.Equal(first, want) || !slices.Equal(syntax.Follow(tokens[:i]), want) {
			t.Fatalf("Follow of %d tokens is %v, then %v", i, want, first)
		}
	}
}
