package posts

import (
	"slices"

	"concord/api"
	"concord/codec"
)

// Encode makes the postings' bytes.
func Encode(list []api.Posting) ([]byte, error) {
	ahead := aheadOfAll
	for _, p := range list {
		if err := faultOf(p, ahead); err != nil {
			return nil, err
		}
		ahead = p.Doc
	}
	return bytesOf(list), nil
}

// faultOf is what is wrong with a posting behind that of the document ahead.
func faultOf(p api.Posting, ahead int) error {
	if p.Doc < 0 || p.Doc > lastDoc {
		return api.ErrRange
	}
	if p.Doc <= ahead {
		return api.ErrOrder
	}
	if len(p.Pos) == 0 || slices.Min(p.Pos) < 0 {
		return api.ErrRange
	}
	if !rises(p.Pos) {
		return api.ErrOrder
	}
	return nil
}

// rises tells whether each number is greater than the one ahead of it.
func rises(list []int) bool {
	for i := 1; i < len(list); i++ {
		if list[i] <= list[i-1] {
			return false
		}
	}
	return true
}

// bytesOf is the bytes of a good list. The blocks are written apart from the skip entries ahead of them, which tell their sizes.
func bytesOf(list []api.Posting) []byte {
	head, skips, blocks := codec.NewWriter(), codec.NewWriter(), codec.NewWriter()
	head.Uvarint(uint64(len(list)))
	head.Uvarint(uint64(positionsIn(list)))
	base := aheadOfAll
	for block := range slices.Chunk(list, api.BlockDocs) {
		begin := blocks.Len()
		putBlock(blocks, block, base)
		last := block[len(block)-1].Doc
		skips.Uvarint(between(base, last))
		skips.Uvarint(uint64(blocks.Len() - begin))
		base = last
	}
	return codec.Concat(head.Bytes(), skips.Bytes(), blocks.Bytes())
}

// positionsIn is the number of positions of all postings.
func positionsIn(list []api.Posting) int {
	sum := 0
	for _, p := range list {
		sum += len(p.Pos)
	}
	return sum
}

// between is how many numbers lie between a number and a greater one: what tells the greater one, if the other is known.
func between(ahead, x int) uint64 {
	return uint64(x - 1 - ahead)
}

// putBlock puts the postings of the block behind the document base.
func putBlock(w *codec.Writer, block []api.Posting, base int) {
	var gaps, more []int
	for _, p := range block {
		gaps = append(gaps, int(between(base, p.Doc)))
		more = append(more, len(p.Pos)-1)
		base = p.Doc
	}
	// A list so short is refused for a number below 0 alone, and here is none.
	_ = w.Packed(gaps)
	_ = w.Packed(more)
	for _, p := range block {
		putPositions(w, p.Pos)
	}
}

// putPositions puts the positions of one document; how many they are stands ahead of them.
func putPositions(w *codec.Writer, pos []int) {
	ahead := aheadOfAll
	for _, x := range pos {
		w.Uvarint(between(ahead, x))
		ahead = x
	}
}
