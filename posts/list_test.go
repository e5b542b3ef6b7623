package posts_test

import (
	"bytes"
	"math"
	"math/rand"
	"slices"
	"testing"

	"concord/api"
	"concord/posts"
)

// holdSkip holds Skip and Block of one number against the list.
func holdSkip(t testing.TB, l *posts.List, list []api.Posting, skips []api.Skip, k int) {
	t.Helper()
	s, ok := l.Skip(k)
	block := l.Block(k)
	if k < 0 || k >= len(skips) {
		if ok || s != (api.Skip{}) || len(block) != 0 {
			t.Fatalf("block %d of %d: Skip is %v and %v, Block %v", k, len(skips), s, ok, block)
		}
		return
	}
	if !ok || s != skips[k] {
		t.Fatalf("Skip(%d) is %v and %v, not %v", k, s, ok, skips[k])
	}
	if want := list[16*k : min(16*k+16, len(list))]; !alike(block, want) {
		t.Fatalf("Block(%d) is %v, not %v", k, block, want)
	}
}

// holdList holds every call of a List against the postings of which it was made.
func holdList(t testing.TB, l *posts.List, list []api.Posting) {
	t.Helper()
	skips := modelSkips(list)
	if l.Docs() != len(list) || l.Total() != totalOf(list) || l.Blocks() != len(skips) {
		t.Fatalf("%v: Docs %d, Total %d, Blocks %d", list, l.Docs(), l.Total(), l.Blocks())
	}
	for k := -2; k < len(skips)+2; k++ {
		holdSkip(t, l, list, skips, k)
	}
}

// P8.3
func TestListOfManyKinds(t *testing.T) {
	for _, list := range named() {
		l := mustOpen(t, mustEncode(t, list))
		holdList(t, l, list)
		holdList(t, l, list)
		for _, k := range []int{math.MinInt, -17, -16, -1, l.Blocks(), l.Blocks() + 1, 1 << 32, 1 << 60, math.MaxInt} {
			holdSkip(t, l, list, modelSkips(list), k)
		}
	}
}

// P8.3, P8.4: the numbers of three blocks, written out.
func TestListOfThreeBlocks(t *testing.T) {
	var docs []int
	for i := range 35 {
		docs = append(docs, 3*i)
	}
	list := onePosition(5, docs...)
	b := mustEncode(t, list)
	l := mustOpen(t, b)
	if l.Docs() != 35 || l.Total() != 35 || l.Blocks() != 3 {
		t.Errorf("Docs %d, Total %d, Blocks %d", l.Docs(), l.Total(), l.Blocks())
	}
	// Two bits for each document, none for the numbers of positions, a byte for each position. The first of all is 0, the others lie 3 apart.
	for k, want := range []api.Skip{
		{Last: 45, Docs: 16, At: 8, Size: 2 + 4 + 2 + 16},
		{Last: 93, Docs: 16, At: 32, Size: 2 + 4 + 2 + 16},
		{Last: 102, Docs: 3, At: 56, Size: 2 + 1 + 2 + 3},
	} {
		if s, ok := l.Skip(k); !ok || s != want {
			t.Errorf("Skip(%d) is %v and %v, not %v", k, s, ok, want)
		}
	}
	if len(b) != 64 {
		t.Errorf("there are %d bytes, not 64", len(b))
	}
	for _, k := range []int{-1, 3} {
		if s, ok := l.Skip(k); ok || s != (api.Skip{}) || len(l.Block(k)) != 0 {
			t.Errorf("there is a block %d: %v, %v", k, s, l.Block(k))
		}
	}
}

// P8.3: a list without postings has no block.
func TestListOfNone(t *testing.T) {
	l := mustOpen(t, []byte{0, 0})
	if l.Docs() != 0 || l.Total() != 0 || l.Blocks() != 0 {
		t.Errorf("Docs %d, Total %d, Blocks %d", l.Docs(), l.Total(), l.Blocks())
	}
	if s, ok := l.Skip(0); ok || s != (api.Skip{}) || len(l.Block(0)) != 0 {
		t.Error("there is a block 0")
	}
}

// P8.3: in any order, as often as they are asked, what is handed out written over.
func TestListAskedInAnyOrder(t *testing.T) {
	dice := rand.New(rand.NewSource(83))
	for _, list := range named() {
		l := mustOpen(t, mustEncode(t, list))
		skips := modelSkips(list)
		for range 100 {
			k := dice.Intn(len(skips)+4) - 2
			holdSkip(t, l, list, skips, k)
			wipeList(l.Block(k))
			if dice.Intn(3) == 0 && (l.Docs() != len(list) || l.Total() != totalOf(list) || l.Blocks() != len(skips)) {
				t.Fatal("Docs, Total or Blocks has changed")
			}
		}
	}
}

// P8.4
func TestBlocksAreTheWholeList(t *testing.T) {
	for name, list := range named() {
		b := mustEncode(t, list)
		l := mustOpen(t, b)
		var all []api.Posting
		end := -1
		for k := range l.Blocks() {
			s, ok := l.Skip(k)
			block := l.Block(k)
			if !ok || s.Docs != len(block) || s.Last != block[len(block)-1].Doc {
				t.Fatalf("Skip(%d) of %s is %v and %v, the block %v", k, name, s, ok, block)
			}
			if k > 0 && s.At != end {
				t.Fatalf("block %d of %s lies at %d, not at %d", k, name, s.At, end)
			}
			end = s.At + s.Size
			all = append(all, block...)
			holdBlockBytes(t, b[s.At:end], list, k)
		}
		if !alike(all, list) {
			t.Fatalf("the blocks of %s are %v", name, all)
		}
		if len(list) > 0 && end != len(b) {
			t.Fatalf("the blocks of %s end at %d of %d", name, end, len(b))
		}
	}
}

// holdBlockBytes asks whether these are the bytes of block k.
func holdBlockBytes(t *testing.T, b []byte, list []api.Posting, k int) {
	t.Helper()
	if want := toldOf(list)[k].body(); !bytes.Equal(b, want) {
		t.Fatalf("at block %d lies % x, not % x", k, b, want)
	}
}

// P8.3, rule 5: a List sees neither its bytes nor its answers written over.
func TestListSharesNothing(t *testing.T) {
	for name, list := range named() {
		room := append(mustEncode(t, list), 7, 8, 9)
		b := room[:len(room)-3]
		before := bytes.Clone(room)
		l := mustOpen(t, b)
		other := mustOpen(t, b)
		if !bytes.Equal(room, before) {
			t.Fatalf("Open changed the bytes of %s", name)
		}
		wipeBytes(room)
		holdList(t, l, list)
		holdList(t, other, list)
		for k := range l.Blocks() {
			first, second := l.Block(k), l.Block(k)
			want := kept(first)
			wipeList(second)
			if !alike(first, want) {
				t.Fatalf("two answers of Block(%d) of %s share something", k, name)
			}
			holdApart(t, first)
			wipeList(first)
		}
		holdList(t, l, list)
		holdList(t, other, list)
	}
}

// P8.3: the lists of two images asked in turn don't disturb one another.
func TestTwoLists(t *testing.T) {
	a, b := counted(40, 3), counted(70, 11)
	la, lb := mustOpen(t, mustEncode(t, a)), mustOpen(t, mustEncode(t, b))
	sa, sb := modelSkips(a), modelSkips(b)
	for k := -1; k < 7; k++ {
		holdSkip(t, la, a, sa, k)
		holdSkip(t, lb, b, sb, k)
	}
	if la.Docs() != 40 || lb.Docs() != 70 || la.Blocks() != 3 || lb.Blocks() != 5 {
		t.Error("two lists are mixed up")
	}
}

func FuzzList(f *testing.F) {
	f.Add(int64(1), 20, 3, 4, 5)
	f.Add(int64(2), 33, 31, 40, 62)
	f.Fuzz(func(t *testing.T, seed int64, docs, docBits, pos, posBits int) {
		dice := rand.New(rand.NewSource(seed))
		within := func(v, most int) int { return int(uint(v) % uint(most+1)) }
		list := made(dice, within(docs, 100), within(docBits, 31), 1+within(pos, 50), within(posBits, 62))
		if !holdEncode(t, list) || !holdDecode(t, mustEncode(t, list)) {
			t.Fatalf("%v is refused", list)
		}
		back, err := posts.Decode(mustEncode(t, list))
		if err != nil || !alike(back, list) || !slices.IsSortedFunc(back, func(a, b api.Posting) int { return a.Doc - b.Doc }) {
			t.Fatalf("%v comes back as %v and %v", list, back, err)
		}
	})
}
