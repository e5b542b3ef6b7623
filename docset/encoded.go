package docset

import (
	"bytes"

	"concord/api"
	"concord/codec"
)

// The tags of an encoded block.
const (
	tagNone = iota
	tagAll
	tagList
	tagHoles
	tagBits
)

// mostBytes is the number of bytes that an encoded block has at most: those of the bits of a whole one, for a longer form is never the shortest.
const mostBytes = 1 + blockSize/8

// encoded is a block in its encoded form: the first used bytes.
type encoded struct {
	bytes [mostBytes]byte
	used  int
}

// Encode makes the set's bytes.
func (s *Set) Encode() []byte {
	w := codec.NewWriter()
	w.Uvarint(uint64(s.size))
	for j, b := range s.blocks {
		e := encodeBlock(b, s.width(j))
		w.Raw(e.bytes[:e.used])
	}
	return w.Bytes()
}

// encodeBlock is the one encoded form of a block that holds width numbers.
func encodeBlock(b block, width int) encoded {
	var e encoded
	tag := tagOf(b.count(), width)
	e.put(byte(tag))
	switch tag {
	case tagList:
		e.putList(b)
	case tagHoles:
		e.putList(lowest(width).minus(b))
	case tagBits:
		e.putBits(b, width)
	}
	return e
}

// tagOf is the tag of a block that holds width numbers, count of them members: of the shortest form, and of several such the lowest.
func tagOf(count, width int) int {
	switch count {
	case 0:
		return tagNone
	case width:
		return tagAll
	}
	list, holes, bits := 2+count, 2+width-count, 1+bytesOfBits(width)
	switch min(list, holes, bits) {
	case list:
		return tagList
	case holes:
		return tagHoles
	}
	return tagBits
}

// bytesOfBits is the number of bytes that have a bit for each of width numbers.
func bytesOfBits(width int) int {
	return (width + 7) / 8
}

func (e *encoded) put(b byte) {
	e.bytes[e.used] = b
	e.used++
}

func (e *encoded) putList(b block) {
	e.put(byte(b.count() - 1))
	for i := range b.all() {
		e.put(byte(i))
	}
}

func (e *encoded) putBits(b block, width int) {
	for i := range bytesOfBits(width) {
		e.put(byte(b[i/8] >> (i % 8 * 8)))
	}
}

// Decode is the set of these bytes.
func Decode(b []byte) (*Set, error) {
	// The Reader gets no more than the greatest size can have, for it copies what it gets.
	r := codec.NewReader(b[:min(len(b), codec.UvarintLen(api.MaxSet))])
	n, err := r.Upto(api.MaxSet)
	if err != nil {
		return nil, api.ErrCorrupt
	}
	s := empty(n)
	rest := b[r.At():]
	for j := range s.blocks {
		read, used, ok := decodeBlock(rest, s.width(j))
		if !ok {
			return nil, api.ErrCorrupt
		}
		s.blocks[j] = read
		rest = rest[used:]
	}
	if len(rest) > 0 {
		return nil, api.ErrCorrupt
	}
	return s, nil
}

// decodeBlock is the block of width numbers with whose encoded form b begins, the number of its bytes, and whether there is one. What the bytes seem to say is encoded again: so just what encodeBlock makes is taken, and guess may read carelessly.
func decodeBlock(b []byte, width int) (block, int, bool) {
	var head [mostBytes]byte
	copy(head[:], b)
	read := guess(head, width)
	e := encodeBlock(read, width)
	if !bytes.HasPrefix(b, e.bytes[:e.used]) {
		return block{}, 0, false
	}
	return read, e.used, true
}

// guess is the block of width numbers that head is the encoded form of, if it is one; else any block of so many numbers.
func guess(head [mostBytes]byte, width int) block {
	places := lowest(width)
	switch head[0] {
	case tagAll:
		return places
	case tagList:
		return places.and(listed(head))
	case tagHoles:
		return places.minus(listed(head))
	case tagBits:
		return places.and(bitwise(head))
	}
	return block{}
}

// listed is the block of the numbers that a list behind a tag names, as far as there is room for them.
func listed(head [mostBytes]byte) block {
	var b block
	end := min(2+int(head[1])+1, mostBytes)
	for _, i := range head[2:end] {
		b.add(int(i))
	}
	return b
}

// bitwise is the block of the bits behind a tag.
func bitwise(head [mostBytes]byte) block {
	var b block
	for i, bits := range head[1:] {
		b[i/8] |= uint64(bits) << (i % 8 * 8)
	}
	return b
}
