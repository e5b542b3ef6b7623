package posts_test

import (
	"bytes"
	"math"
	"math/big"
	"slices"
	"strings"

	"concord/api"
)

// This file says the chapter once more: the bytes number by number and bit by bit, and a reading that takes what the bytes seem to tell and then asks whether just these bytes are those of what it found.

func uvarint(v int) []byte {
	return appendUvarint(nil, v)
}

func appendUvarint(b []byte, v int) []byte {
	for ; v >= 128; v /= 128 {
		b = append(b, byte(v%128+128))
	}
	return append(b, byte(v))
}

// packed is the packed form, by the text of its bits.
func packed(list []int) []byte {
	b := uvarint(len(list))
	if len(list) == 0 {
		return b
	}
	width := len(strings.TrimLeft(big.NewInt(int64(slices.Max(list))).Text(2), "0"))
	return append(append(b, byte(width)), bitsOf(list, width)...)
}

// bitsOf are the elements with so many bits each, the lowest first.
func bitsOf(list []int, width int) []byte {
	var bits []byte
	for _, x := range list {
		for range width {
			bits = append(bits, byte(x%2))
			x /= 2
		}
	}
	out := make([]byte, (len(bits)+7)/8)
	for i, bit := range bits {
		out[i/8] += bit << (i % 8)
	}
	return out
}

// told is a block as bytes may tell it, rightly or wrongly.
type told struct {
	gap  int
	size int
	gaps []int
	more []int
	pos  [][]int
}

func (x told) body() []byte {
	b := append(packed(x.gaps), packed(x.more)...)
	for _, list := range x.pos {
		for _, v := range list {
			b = appendUvarint(b, v)
		}
	}
	return b
}

// toldOf is how Encode tells the blocks of a list.
func toldOf(list []api.Posting) []told {
	var blocks []told
	for i, p := range list {
		if i%16 == 0 {
			blocks = append(blocks, told{})
		}
		x := &blocks[len(blocks)-1]
		ahead := -1
		if i > 0 {
			ahead = list[i-1].Doc
		}
		base := -1
		if i >= 16 {
			base = list[i/16*16-1].Doc
		}
		x.gap = p.Doc - base - 1
		x.gaps = append(x.gaps, p.Doc-ahead-1)
		x.more = append(x.more, len(p.Pos)-1)
		pos := slices.Clone(p.Pos)
		for k := len(pos) - 1; k > 0; k-- {
			pos[k] -= pos[k-1] + 1
		}
		x.pos = append(x.pos, pos)
	}
	for i := range blocks {
		blocks[i].size = len(blocks[i].body())
	}
	return blocks
}

// toldBytes are the bytes in which n, t and the blocks stand as they are told.
func toldBytes(n, t int, blocks []told) []byte {
	b := append(uvarint(n), uvarint(t)...)
	for _, x := range blocks {
		b = appendUvarint(appendUvarint(b, x.gap), x.size)
	}
	for _, x := range blocks {
		b = append(b, x.body()...)
	}
	return b
}

func totalOf(list []api.Posting) int {
	t := 0
	for _, p := range list {
		t += len(p.Pos)
	}
	return t
}

func modelBytes(list []api.Posting) []byte {
	return toldBytes(len(list), totalOf(list), toldOf(list))
}

// modelFault is what Encode answers beside the bytes.
func modelFault(list []api.Posting) error {
	for i, p := range list {
		if p.Doc < 0 || p.Doc > 2147483646 {
			return api.ErrRange
		}
		if i > 0 && p.Doc <= list[i-1].Doc {
			return api.ErrOrder
		}
		if len(p.Pos) == 0 || slices.ContainsFunc(p.Pos, func(x int) bool { return x < 0 }) {
			return api.ErrRange
		}
		if !slices.IsSorted(p.Pos) || len(slices.Compact(slices.Clone(p.Pos))) < len(p.Pos) {
			return api.ErrOrder
		}
	}
	return nil
}

// modelSkips are the skip entries of a good list, whose blocks end where its bytes do.
func modelSkips(list []api.Posting) []api.Skip {
	at := len(modelBytes(list))
	blocks := toldOf(list)
	skips := make([]api.Skip, len(blocks))
	for k := len(blocks) - 1; k >= 0; k-- {
		at -= blocks[k].size
		docs := list[16*k : min(16*k+16, len(list))]
		skips[k] = api.Skip{Last: docs[len(docs)-1].Doc, Docs: len(docs), At: at, Size: blocks[k].size}
	}
	return skips
}

// loose reads bytes without asking whether they are in order; bad says that they ended, or that a number is none of Go's.
type loose struct {
	left []byte
	bad  bool
}

func (l *loose) number() int {
	v := 0
	for shift := 0; ; shift += 7 {
		if len(l.left) == 0 {
			l.bad = true
			return 0
		}
		b := l.left[0]
		l.left = l.left[1:]
		if group := int(b & 127); group > 0 && shift > 56 {
			l.bad = true
		} else {
			v += group << shift
		}
		if b < 128 {
			return v
		}
	}
}

// packed are so many elements, whatever number is told.
func (l *loose) packed(n int) []int {
	list := make([]int, n)
	if l.number(); l.bad || len(l.left) == 0 {
		l.bad = true
		return list
	}
	width := int(l.left[0])
	l.left = l.left[1:]
	size := (n*width + 7) / 8
	if size > len(l.left) || width > 63 {
		l.bad = true
		return list
	}
	for i := range n * width {
		if l.left[i/8]>>(i%8)%2 == 1 {
			list[i/width] += 1 << (i % width)
		}
	}
	l.left = l.left[size:]
	return list
}

// summed is a number behind another by a gap that is told.
func (l *loose) summed(ahead, gap int) int {
	if ahead >= 0 && gap > math.MaxInt-1-ahead {
		l.bad = true
		return 0
	}
	return ahead + (1 + gap)
}

// modelDecode takes the postings that the bytes seem to tell, and holds the bytes of these against the bytes.
func modelDecode(b []byte) ([]api.Posting, bool) {
	l := &loose{left: b}
	n := l.number()
	l.number()
	if n > len(b) {
		return nil, false
	}
	for range (n + 15) / 16 {
		l.number()
		l.number()
	}
	var list []api.Posting
	doc := -1
	for first := 0; first < n && !l.bad; first += 16 {
		count := min(16, n-first)
		gaps, more := l.packed(count), l.packed(count)
		for i := range count {
			doc = l.summed(doc, gaps[i])
			pos := -1
			var all []int
			for k := 0; k <= more[i] && !l.bad; k++ {
				pos = l.summed(pos, l.number())
				all = append(all, pos)
			}
			list = append(list, api.Posting{Doc: doc, Pos: all})
		}
	}
	ok := !l.bad && modelFault(list) == nil && bytes.Equal(modelBytes(list), b)
	return list, ok
}
