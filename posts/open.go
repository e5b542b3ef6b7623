package posts

import (
	"math"

	"concord/api"
	"concord/codec"
)

// Decode is the postings of these bytes.
func Decode(b []byte) ([]api.Posting, error) {
	l, ok := readHead(b)
	if !ok {
		return nil, api.ErrCorrupt
	}
	list, ok := l.readAll()
	if !ok {
		return nil, api.ErrCorrupt
	}
	return list, nil
}

// Open opens postings' bytes, of which it keeps a copy.
func Open(b []byte) (*List, error) {
	l, ok := readHead(codec.Concat(b))
	if !ok {
		return nil, api.ErrCorrupt
	}
	if _, ok := l.readAll(); !ok {
		return nil, api.ErrCorrupt
	}
	return l, nil
}

// readHead is the list that the head of the image tells; its blocks lie in the image, but may be broken.
func readHead(image []byte) (*List, bool) {
	r := codec.NewReader(image)
	// Each document and each position has a byte of its own at least: greater numbers are told by no head.
	docs, err := r.Upto(r.Left())
	if err != nil {
		return nil, false
	}
	total, err := r.Upto(r.Left())
	if err != nil {
		return nil, false
	}
	skips, ok := readSkips(r, docs)
	return &List{image: image, docs: docs, total: total, skips: skips}, ok
}

// readSkips reads the skip entries of so many documents. The blocks must fill all that is left behind them.
func readSkips(r *codec.Reader, docs int) ([]api.Skip, bool) {
	var skips []api.Skip
	base, sum := aheadOfAll, 0
	for left := docs; left > 0; left -= api.BlockDocs {
		last, ok := readBehind(r, base, lastDoc)
		if !ok {
			return nil, false
		}
		size, err := r.Upto(r.Left())
		if err != nil {
			return nil, false
		}
		skips = append(skips, api.Skip{Last: last, Docs: min(left, api.BlockDocs), At: sum, Size: size})
		base = last
		sum += size
	}
	// Where the first block lies is known now alone.
	for k := range skips {
		skips[k].At += r.At()
	}
	return skips, sum == r.Left()
}

// readBehind reads a number that is told by how many lie between it and a smaller one; most is the greatest that it may be.
func readBehind(r *codec.Reader, ahead, most int) (int, bool) {
	gap, err := r.Upto(most - 1 - ahead)
	return ahead + 1 + gap, err == nil
}

// readAll reads the postings of all blocks, and holds the number of their positions against the head's.
func (l *List) readAll() ([]api.Posting, bool) {
	var list []api.Posting
	for k := range l.skips {
		block, ok := l.readBlock(k)
		if !ok {
			return nil, false
		}
		list = append(list, block...)
	}
	return list, positionsIn(list) == l.total
}

// readBlock reads block k, through a reader of its bytes alone: what is wrong in them can't reach into the next block's.
func (l *List) readBlock(k int) ([]api.Posting, bool) {
	s := l.skips[k]
	base := aheadOfAll
	if k > 0 {
		base = l.skips[k-1].Last
	}
	end := s.At + s.Size
	r := codec.NewReader(l.image[s.At:end:end])
	docs, ok := readDocs(r, base, s)
	if !ok {
		return nil, false
	}
	more, err := r.Packed(s.Docs)
	if err != nil || len(more) != s.Docs {
		return nil, false
	}
	block := make([]api.Posting, 0, s.Docs)
	for i, doc := range docs {
		pos, ok := readPositions(r, more[i])
		if !ok {
			return nil, false
		}
		block = append(block, api.Posting{Doc: doc, Pos: pos})
	}
	return block, r.Done() == nil
}

// readDocs reads the documents of the block behind the document base; they must be as many as its skip entry tells, and end where it tells.
func readDocs(r *codec.Reader, base int, s api.Skip) ([]int, bool) {
	gaps, err := r.Packed(s.Docs)
	if err != nil || len(gaps) != s.Docs {
		return nil, false
	}
	docs := make([]int, 0, s.Docs)
	for _, gap := range gaps {
		if gap > s.Last-1-base {
			return nil, false
		}
		base += gap + 1
		docs = append(docs, base)
	}
	return docs, base == s.Last
}

// readPositions reads the positions of one document: one, and so many more.
func readPositions(r *codec.Reader, more int) ([]int, bool) {
	// Each has a byte at least: so no more room is taken than the bytes ask for.
	if more >= r.Left() {
		return nil, false
	}
	pos := make([]int, 0, more+1)
	ahead := aheadOfAll
	for range more + 1 {
		x, ok := readBehind(r, ahead, math.MaxInt)
		if !ok {
			return nil, false
		}
		pos = append(pos, x)
		ahead = x
	}
	return pos, true
}
