package docset

import (
	"slices"

	"concord/api"
)

// Clone is a set of its own with the same members.
func (s *Set) Clone() *Set {
	return &Set{size: s.size, blocks: slices.Clone(s.blocks)}
}

// And is the set of what is in both.
func (s *Set) And(t *Set) (*Set, error) {
	return s.with(t, block.and)
}

// Or is the set of what is in either.
func (s *Set) Or(t *Set) (*Set, error) {
	return s.with(t, block.or)
}

// Minus is the set of what is in s and not in t.
func (s *Set) Minus(t *Set) (*Set, error) {
	return s.with(t, block.minus)
}

// with is a new set, of what join makes of each block of s and that of t.
func (s *Set) with(t *Set, join func(b, c block) block) (*Set, error) {
	if t == nil || t.size != s.size {
		return nil, api.ErrSize
	}
	out := s.Clone()
	for j, c := range t.blocks {
		out.blocks[j] = join(out.blocks[j], c)
	}
	return out, nil
}

// Not is the set of the places that are no members.
func (s *Set) Not() *Set {
	out := s.Clone()
	for j, b := range s.blocks {
		out.blocks[j] = lowest(s.width(j)).minus(b)
	}
	return out
}

// width is how many numbers block number j holds: only the last may have fewer than a whole one.
func (s *Set) width(j int) int {
	return min(blockSize, s.size-j*blockSize)
}

// Equal tells whether both have the same places and members.
func (s *Set) Equal(t *Set) bool {
	return t != nil && s.size == t.size && slices.Equal(s.blocks, t.blocks)
}
