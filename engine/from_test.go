package engine_test

import (
	"errors"
	"slices"
	"testing"

	"concord/api"
	"concord/engine"
)

// wantPiece says that From refuses an index for a piece.
func wantPiece(t *testing.T, what string, x api.Index, part int, want error) {
	t.Helper()
	e, err := engine.From(x)
	p, ok := err.(*api.PartError)
	if e != nil || !ok || p.Part != part || p.Err != want {
		t.Errorf("From with %s: %v, %v, want the part %d and %v", what, e, err, part, want)
		return
	}
	if !errors.Is(err, want) || err.Error() != want.Error() {
		t.Errorf("From with %s: the error is %v", what, err)
	}
	if _, again := engine.From(x); again == err {
		t.Errorf("From with %s: the error is the same one twice", what)
	}
}

// indexOf is the index of segments: see segmentsOf.
func indexOf(t *testing.T, rows ...string) api.Index {
	t.Helper()
	return segmentsOf(rows...).index(t)
}

// P25.5: the next id.
func TestFromNext(t *testing.T) {
	x := indexOf(t)
	for _, next := range []int{-1, -1 << 62, api.MaxId + 1, 1 << 62} {
		x.Next = next
		if e, err := engine.From(x); e != nil || err != api.ErrRange {
			t.Errorf("From with the next id %d: %v, %v", next, e, err)
		}
		// It comes ahead of the pieces.
		y := x
		y.Pieces = []api.Piece{{Image: []byte("x")}}
		if e, err := engine.From(y); e != nil || err != api.ErrRange {
			t.Errorf("From with the next id %d and a bad piece: %v, %v", next, e, err)
		}
	}
	for _, next := range []int{0, 1, 77, api.MaxId - 1, api.MaxId} {
		x.Next = next
		if got := mustFrom(t, x).Index(); got.Next != next || len(got.Pieces) != 0 {
			t.Errorf("From with the next id %d: %s", next, brief(got))
		}
	}
	// The last document's id is just below the next one, or as great.
	y := indexOf(t, "++", "+-+")
	last := mustFrom(t, y).Parts()[1]
	id, _ := last.Id(2)
	y.Next = id + 1
	mustFrom(t, y)
	y.Next = id
	wantPiece(t, "a next id that is there", y, 1, api.ErrRange)
	y.Next = 0
	wantPiece(t, "the next id 0", y, 0, api.ErrRange)
	y = indexOf(t, "", "")
	y.Next = 0
	mustFrom(t, y)
}

// P25.5: the image of a piece.
func TestFromImages(t *testing.T) {
	good := indexOf(t, "++", "+")
	image := good.Pieces[1].Image
	other := mustNew(t, "u:text")
	mustAdd(t, other, "u", "red")
	for what, bad := range map[string][]byte{"no image": nil, "another text": []byte("x"), "a short image": image[:len(image)-1], "a long image": append(slices.Clone(image), 0), "an image over another schema": other.Index().Pieces[0].Image} {
		for i := range 3 {
			x := good
			x.Pieces = slices.Insert(slices.Clone(good.Pieces), i, api.Piece{Image: bad, Dead: []int{-1, -1}})
			wantPiece(t, what, x, i, api.ErrCorrupt)
		}
	}
	for at := range image {
		x := good
		turned := slices.Clone(image)
		turned[at] ^= 1 << (at % 8)
		x.Pieces = []api.Piece{good.Pieces[0], {Image: turned}}
		wantPiece(t, "a turned bit", x, 1, api.ErrCorrupt)
	}
}

// P25.5: ids that don't rise through the pieces.
func TestFromOrder(t *testing.T) {
	s := mustParse(t, "t:text")
	piece := func(ids ...int) api.Piece {
		var docs []api.Doc
		for _, id := range ids {
			docs = append(docs, api.Doc{Id: id})
		}
		return api.Piece{Image: mustBuild(t, s, docs)}
	}
	for _, x := range []struct {
		pieces []api.Piece
		bad    int // -1: none
	}{
		{[]api.Piece{piece(0), piece(0)}, 1},
		{[]api.Piece{piece(0), piece(1)}, -1},
		{[]api.Piece{piece(1), piece(0)}, 1},
		{[]api.Piece{piece(1, 5), piece(5, 6)}, 1},
		{[]api.Piece{piece(1, 5), piece(6, 7)}, -1},
		{[]api.Piece{piece(1, 5), piece(2, 3)}, 1},
		{[]api.Piece{piece(1, 5), piece(), piece(5)}, 2},
		{[]api.Piece{piece(1, 5), piece(), piece(), piece(3)}, 3},
		{[]api.Piece{piece(1, 5), piece(), piece(6)}, -1},
		{[]api.Piece{piece(), piece(), piece(0)}, -1},
		{[]api.Piece{piece(3), piece(4, 8), piece(5)}, 2},
		{[]api.Piece{piece(3), piece(4, 8), piece(3)}, 2},
		{[]api.Piece{piece(0), piece(2), piece(1), piece(1)}, 2},
		{[]api.Piece{piece(5), piece(), piece(7), piece()}, -1},
	} {
		index := api.Index{Schema: s, Next: 9, Pieces: x.pieces}
		if x.bad < 0 {
			mustFrom(t, index)
			continue
		}
		wantPiece(t, "ids that don't rise", index, x.bad, api.ErrOrder)
		// Ids that don't rise come ahead of one that isn't below the next, and of the dead.
		index.Next = 0
		for i := range index.Pieces {
			if ids := mustIds(t, s, index.Pieces[i]); i < x.bad && len(ids) > 0 {
				index.Next = max(index.Next, slices.Max(ids)+1)
			}
		}
		index.Pieces[x.bad].Dead = []int{-1}
		wantPiece(t, "ids that don't rise, and more", index, x.bad, api.ErrOrder)
	}
}

// mustIds are the ids of a piece's documents.
func mustIds(t *testing.T, s api.Schema, p api.Piece) []int {
	t.Helper()
	var ids []int
	for _, part := range mustFrom(t, api.Index{Schema: s, Next: api.MaxId, Pieces: []api.Piece{{Image: p.Image}}}).Parts() {
		for _, d := range part.LiveDocs() {
			ids = append(ids, d.Id)
		}
	}
	return ids
}

// P25.5: the dead of a piece.
func TestFromDead(t *testing.T) {
	for _, x := range []struct {
		dead []int
		want error
	}{
		{nil, nil}, {[]int{}, nil}, {[]int{0}, nil}, {[]int{2}, nil}, {[]int{0, 2}, nil}, {[]int{0, 1, 2}, nil},
		{[]int{-1}, api.ErrRange}, {[]int{3}, api.ErrRange}, {[]int{0, 1, 2, 3}, api.ErrRange}, {[]int{1 << 62}, api.ErrRange}, {[]int{-1 << 62}, api.ErrRange},
		{[]int{1, 1}, api.ErrOrder}, {[]int{1, 0}, api.ErrOrder}, {[]int{0, 2, 1}, api.ErrOrder}, {[]int{0, 1, 2, 2}, api.ErrOrder}, {[]int{0, 0, 0, 0, 0}, api.ErrOrder},
		// What is out of range comes first, wherever it stands.
		{[]int{1, 1, 3}, api.ErrRange}, {[]int{2, 1, -1}, api.ErrRange}, {[]int{3, 2}, api.ErrRange},
	} {
		for at := range 3 {
			index := indexOf(t, "+", "++", "+")
			piece := indexOf(t, "+++").Pieces[0]
			rows := []string{"+", "++", "+"}
			rows[at] = "+++"
			index = indexOf(t, rows...)
			index.Pieces[at].Dead = x.dead
			if x.want != nil {
				wantPiece(t, brief(x.dead), index, at, x.want)
				// The ids come first.
				lower := index
				lower.Pieces = append(slices.Clone(index.Pieces), api.Piece{Image: piece.Image, Dead: x.dead})
				lower.Pieces[at].Dead = nil
				wantPiece(t, brief(x.dead), lower, 3, api.ErrOrder)
				late := index
				late.Pieces = index.Pieces[:at+1]
				if ids := mustIds(t, index.Schema, index.Pieces[at]); at > 0 || len(ids) > 0 {
					late.Next = ids[len(ids)-1]
					wantPiece(t, brief(x.dead), late, at, api.ErrRange)
				}
				continue
			}
			e := mustFrom(t, index)
			if got := e.Segments()[at]; got != (api.SegInfo{Docs: 3, Live: 3 - len(x.dead)}) {
				t.Errorf("From with the dead %v: %v", x.dead, got)
			}
			if got := e.Index().Pieces[at].Dead; !slices.Equal(got, x.dead) {
				t.Errorf("From with the dead %v: Index has %v", x.dead, got)
			}
		}
	}
	// In a piece without documents every number is out of range.
	for _, dead := range [][]int{{0}, {-1}, {1, 0}} {
		x := indexOf(t, "+", "")
		x.Pieces[1].Dead = dead
		wantPiece(t, "the dead of no documents", x, 1, api.ErrRange)
	}
}

// P25.5: the first bad piece is told, whatever is wrong with those behind it.
func TestFromFirstBadPiece(t *testing.T) {
	bad := map[error]func(x *api.Index, at int){
		api.ErrCorrupt: func(x *api.Index, at int) { x.Pieces[at].Image = []byte("x") },
		api.ErrRange:   func(x *api.Index, at int) { x.Pieces[at].Dead = []int{9} },
		api.ErrOrder:   func(x *api.Index, at int) { x.Pieces[at].Dead = []int{1, 0} },
	}
	for first := range 3 {
		for want, spoil := range bad {
			for _, also := range bad {
				x := indexOf(t, "+++", "++", "+++")
				spoil(&x, first)
				if first < 2 {
					also(&x, 2)
				}
				wantPiece(t, "two bad pieces", x, first, want)
			}
		}
	}
}

// P25.5: pieces without documents are segments without documents.
func TestFromWithoutDocuments(t *testing.T) {
	b := benchOver(t, segmentsOf("", "++", "", "", "-", ""))
	b.look()
	b.index()
	wantSegments(t, b.engines[0], api.SegInfo{}, api.SegInfo{Docs: 2, Live: 2}, api.SegInfo{}, api.SegInfo{}, api.SegInfo{Docs: 1}, api.SegInfo{})
	m := newMaker(255)
	for range 10 {
		b.search(m, "red")
		b.search(m, m.query(b.model.schema))
		b.program(m.query(b.model.schema))
	}
	b.add(value("t", "red"))
	b.from(0)
	b.merge(2, 2)
	b.merge(0, 1)
	b.index()
}

// P25.5: Index of From is the same index, and the optimiser is on again.
func TestFromOfIndex(t *testing.T) {
	m := newMaker(256)
	for range 60 {
		b := newBench(t, m.schema(t))
		for range 40 {
			b.step(m)
		}
		b.optimise(0, false)
		b.from(0)
		b.index()
		for range 3 {
			b.program(m.query(b.model.schema))
			b.search(m, m.query(b.model.schema))
		}
		for range 20 {
			b.step(m)
		}
		b.index()
	}
}
