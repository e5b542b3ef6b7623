package segment_test

import (
	"math/rand"
	"slices"
	"testing"

	"concord/api"
	"concord/docset"
	"concord/segment"
)

// setOf is a set of n places with these members.
func setOf(t testing.TB, n int, members ...int) *docset.Set {
	t.Helper()
	s, err := docset.Of(n, members)
	if err != nil {
		t.Fatal(err)
	}
	return s
}

// mustPart is the part of a segment and its dead.
func mustPart(t testing.TB, g *segment.Segment, dead *docset.Set) *segment.Part {
	t.Helper()
	p, err := segment.NewPart(g, dead)
	if err != nil || p == nil {
		t.Fatalf("NewPart answers %v and %v", p, err)
	}
	return p
}

// holdPart holds the calls of a part against the documents and the numbers of the dead.
func holdPart(t *testing.T, p *segment.Part, docs []api.Doc, dead []int) {
	t.Helper()
	var alive []int
	var live []api.Doc
	for local, d := range docs {
		if !slices.Contains(dead, local) {
			alive = append(alive, local)
			live = append(live, d)
		}
	}
	if p.Live() != len(alive) {
		t.Fatalf("with the dead %v of %d: Live is %d", dead, len(docs), p.Live())
	}
	if got := p.LiveDocs(); !sameDocs(got, live) {
		t.Fatalf("with the dead %v of %d: LiveDocs are %v", dead, len(docs), got)
	}
	if got := p.Dead(); got.Len() != len(docs) || !slices.Equal(got.Members(), dead) {
		t.Fatalf("with the dead %v of %d: Dead has %v of %d", dead, len(docs), got.Members(), got.Len())
	}
	ask := append(outside(len(docs)), alive...)
	for _, i := range append(ask, dead...) {
		if got := p.Alive(i); got != slices.Contains(alive, i) {
			t.Fatalf("with the dead %v of %d: Alive(%d) is %v", dead, len(docs), i, got)
		}
		want, there := 0, false
		for _, local := range alive {
			if local >= i && !there {
				want, there = local, true
			}
		}
		if got, ok := p.NextAlive(i); got != want || ok != there {
			t.Fatalf("with the dead %v of %d: NextAlive(%d) is %d and %v, not %d and %v", dead, len(docs), i, got, ok, want, there)
		}
	}
}

// deads are lists of dead for n documents: none, some, all.
func deads(n int) [][]int {
	all, even, ends := []int{}, []int{}, []int{}
	for i := range n {
		all = append(all, i)
		if i%2 == 0 {
			even = append(even, i)
		}
		if i == 0 || i == n-1 {
			ends = append(ends, i)
		}
	}
	lists := [][]int{{}, all, even, ends}
	if n > 1 {
		lists = append(lists, all[1:], all[:n-1], all[n/2:n/2+1], all[n/3:n-n/3])
	}
	return lists
}

// P10.5: no dead document, some, all.
func TestPart(t *testing.T) {
	s := mustParse(t, wholeSchema)
	for _, n := range append(sizes(), 300) {
		docs := inAll(n)
		g := mustOpen(t, s, docs)
		holdPart(t, mustPart(t, g, nil), docs, nil)
		for _, dead := range deads(n) {
			holdPart(t, mustPart(t, g, setOf(t, n, dead...)), docs, dead)
		}
	}
}

// P10.5
func TestPartOfMadeDead(t *testing.T) {
	dice := rand.New(rand.NewSource(105))
	s := mustParse(t, wholeSchema)
	for range 60 {
		docs := madeDocs(dice, s, dice.Intn(40))
		dead := []int{}
		for local := range docs {
			if dice.Intn(3) > 0 {
				dead = append(dead, local)
			}
		}
		holdPart(t, mustPart(t, mustOpen(t, s, docs), setOf(t, len(docs), dead...)), docs, dead)
	}
}

// P10.5: a set of another size.
func TestNewPartErrors(t *testing.T) {
	s := mustParse(t, wholeSchema)
	for _, n := range []int{0, 1, 3, 16, 17} {
		g := mustOpen(t, s, inAll(n))
		for _, size := range []int{0, 1, 2, 3, 4, 15, 16, 17, 18, 256, 4096, api.MaxSet} {
			p, err := segment.NewPart(g, setOf(t, size))
			if size == n && (err != nil || p == nil) || size != n && (err != api.ErrSize || p != nil) {
				t.Errorf("a set of %d places for %d documents: %v and %v", size, n, p, err)
			}
		}
	}
}

// P10.5: the set that was handed in stays, and may change; so may the one that was handed out, and the documents.
func TestPartKeepsItsOwnSet(t *testing.T) {
	s, docs := mustParse(t, wholeSchema), inAll(33)
	g := mustOpen(t, s, docs)
	dead := []int{0, 4, 5, 32}
	given := setOf(t, 33, dead...)
	p := mustPart(t, g, given)
	if !slices.Equal(given.Members(), dead) || given.Len() != 33 {
		t.Fatal("NewPart changed the set")
	}
	other := mustPart(t, g, given)
	for i := range 33 {
		if i%2 == 0 {
			given.Remove(i)
		} else {
			given.Add(i)
		}
		out := p.Dead()
		out.Add(i)
		out.Remove(4)
		holdPart(t, p, docs, dead)
	}
	handed := other.Dead()
	handed.Add(7)
	wipeDocs(p.LiveDocs())
	holdPart(t, p, docs, dead)
	holdPart(t, other, docs, dead)
	none := mustPart(t, g, nil)
	none.Dead().Add(1)
	holdPart(t, none, docs, nil)
	live := p.LiveDocs()
	wipeDocs(live[:1:1])
	if !sameDocs(live[1:], p.LiveDocs()[1:]) {
		t.Error("the documents of one answer share memory")
	}
}

// P10.5: the segment's calls, asked through the part, don't mind who is dead.
func TestPartAsksItsSegment(t *testing.T) {
	s := mustParse(t, wholeSchema)
	for _, n := range []int{0, 1, 17} {
		docs := inAll(n)
		g := mustOpen(t, s, docs)
		for _, dead := range deads(n) {
			p := mustPart(t, g, setOf(t, n, dead...))
			if p.Segment != g {
				t.Fatal("the part's segment is another one")
			}
			if p.Docs() != n || !slices.Equal(p.Schema().Fields, s.Fields) || !slices.Equal(p.Image(), g.Image()) || !sameRows(p.Rows(), modelRows(s, docs)) || p.Dict().Len() != g.Dict().Len() {
				t.Fatalf("with the dead %v of %d, the part answers otherwise than the segment", dead, n)
			}
			for local, d := range docs {
				id, ok := p.Id(local)
				at, found := p.Local(d.Id)
				stored, there := p.Stored(local)
				if id != d.Id || !ok || at != local || !found || !there || !sameDocs([]api.Doc{stored}, docs[local:local+1]) || p.Length(0, local) != g.Length(0, local) {
					t.Fatalf("with the dead %v of %d, document %d is another one", dead, n, local)
				}
			}
			if c := p.Cursor(0, "all"); c.Docs() != n {
				t.Fatalf("with the dead %v of %d, the cursor has %d documents", dead, n, c.Docs())
			}
		}
	}
}
