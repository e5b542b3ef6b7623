package docset

import (
	"iter"
	"math/bits"
)

const (
	// blockSize is how many numbers a whole block holds.
	blockSize = 256
	// wordSize is how many of them a word of a block holds.
	wordSize = 64
)

// block holds which of 256 numbers in a row are members, a bit for each. Inside of a block a number is told by its distance from the block's first. The last block of a set may hold fewer numbers: the bits behind them are 0, so that blocks with the same members are equal.
type block [blockSize / wordSize]uint64

// lowest is the block whose members are just the numbers below n.
func lowest(n int) block {
	var b block
	for k := range b {
		ones := min(max(n-k*wordSize, 0), wordSize)
		b[k] = uint64(1)<<ones - 1
	}
	return b
}

func (b block) has(i int) bool {
	return b[i/wordSize]>>(i%wordSize)&1 == 1
}

func (b *block) add(i int) {
	b[i/wordSize] |= 1 << (i % wordSize)
}

func (b *block) remove(i int) {
	b[i/wordSize] &^= 1 << (i % wordSize)
}

func (b block) count() int {
	sum := 0
	for _, word := range b {
		sum += bits.OnesCount64(word)
	}
	return sum
}

// all goes over the members, rising.
func (b block) all() iter.Seq[int] {
	return func(yield func(int) bool) {
		for k, word := range b {
			for ; word != 0; word &= word - 1 {
				if !yield(k*wordSize + bits.TrailingZeros64(word)) {
					return
				}
			}
		}
	}
}

// pick is the member with k members of the block below it, and whether there is one.
func (b block) pick(k int) (int, bool) {
	for i := range b.all() {
		if k == 0 {
			return i, true
		}
		k--
	}
	return 0, false
}

func (b block) and(c block) block {
	for k := range b {
		b[k] &= c[k]
	}
	return b
}

func (b block) or(c block) block {
	for k := range b {
		b[k] |= c[k]
	}
	return b
}

func (b block) minus(c block) block {
	for k := range b {
		b[k] &^= c[k]
	}
	return b
}
