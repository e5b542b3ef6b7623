package codec_test

import (
	"math/big"

	"concord/api"
)

// The model says what each call of a Reader must answer, sentence by sentence as the chapter does, with numbers that don't wrap round and bit by bit.

// taken is what a call answers: a value, the place behind it, and the error (value nil and the old place beside one).
type taken struct {
	value any
	at    int
	err   error
}

func refused(at int, err error) taken {
	return taken{nil, at, err}
}

var greatestElement = big.NewInt(1<<63 - 1)

// modelNumber is the uvarint from a place on.
func modelNumber(b []byte, at int) (*big.Int, int, error) {
	sum := new(big.Int)
	for number := 1; ; number++ {
		if at == len(b) {
			return nil, 0, api.ErrShort
		}
		c := b[at]
		at++
		if number == 10 && c > 1 {
			return nil, 0, api.ErrVarint
		}
		group := big.NewInt(int64(c % 128))
		sum.Add(sum, group.Lsh(group, uint(7*(number-1))))
		if c >= 128 {
			continue
		}
		if c == 0 && number > 1 {
			return nil, 0, api.ErrVarint
		}
		return sum, at, nil
	}
}

// modelUpto is the uvarint from a place on that is at most most.
func modelUpto(b []byte, at, most int) (*big.Int, int, error) {
	n, next, err := modelNumber(b, at)
	if err == nil && n.Cmp(big.NewInt(int64(most))) > 0 {
		return nil, 0, api.ErrLimit
	}
	return n, next, err
}

func modelByte(b []byte, at int) taken {
	if at == len(b) {
		return refused(at, api.ErrShort)
	}
	return taken{b[at], at + 1, nil}
}

func modelUvarint(b []byte, at int) taken {
	n, next, err := modelNumber(b, at)
	if err != nil {
		return refused(at, err)
	}
	return taken{n.Uint64(), next, nil}
}

func modelVarint(b []byte, at int) taken {
	n, next, err := modelNumber(b, at)
	if err != nil {
		return refused(at, err)
	}
	return taken{zagOf(n.Uint64()).Int64(), next, nil}
}

func modelUptoCall(b []byte, at, most int) taken {
	n, next, err := modelUpto(b, at, most)
	if err != nil {
		return refused(at, err)
	}
	return taken{int(n.Int64()), next, nil}
}

// modelWord has the lowest byte first.
func modelWord(b []byte, at, size int) (uint64, bool) {
	if len(b)-at < size {
		return 0, false
	}
	sum := uint64(0)
	for i := size - 1; i >= 0; i-- {
		sum = sum*256 + uint64(b[at+i])
	}
	return sum, true
}

func modelWord32(b []byte, at int) taken {
	v, ok := modelWord(b, at, 4)
	if !ok {
		return refused(at, api.ErrShort)
	}
	return taken{uint32(v), at + 4, nil}
}

func modelWord64(b []byte, at int) taken {
	v, ok := modelWord(b, at, 8)
	if !ok {
		return refused(at, api.ErrShort)
	}
	return taken{v, at + 8, nil}
}

func modelRaw(b []byte, at, n int) taken {
	if n < 0 {
		return refused(at, api.ErrRange)
	}
	if len(b)-at < n {
		return refused(at, api.ErrShort)
	}
	return taken{string(b[at : at+n]), at + n, nil}
}

func modelText(b []byte, at, most int) taken {
	n, next, err := modelUpto(b, at, most)
	if err != nil {
		return refused(at, err)
	}
	if n.Cmp(big.NewInt(int64(len(b)-next))) > 0 {
		return refused(at, api.ErrShort)
	}
	end := next + int(n.Int64())
	return taken{string(b[next:end]), end, nil}
}

func modelRising(b []byte, at, most int) taken {
	n, next, err := modelUpto(b, at, most)
	if err != nil {
		return refused(at, err)
	}
	list := []int{}
	before := big.NewInt(-1)
	for big.NewInt(int64(len(list))).Cmp(n) < 0 {
		step, behind, err := modelNumber(b, next)
		if err != nil {
			return refused(at, err)
		}
		x := new(big.Int).Add(before, step)
		x.Add(x, big.NewInt(1))
		if x.Cmp(greatestElement) > 0 {
			return refused(at, api.ErrLimit)
		}
		list = append(list, int(x.Int64()))
		before, next = x, behind
	}
	return taken{list, next, nil}
}

func modelPacked(b []byte, at, most int) taken {
	n, next, err := modelUpto(b, at, most)
	if err != nil {
		return refused(at, err)
	}
	if n.Sign() == 0 {
		return taken{[]int{}, next, nil}
	}
	if next == len(b) {
		return refused(at, api.ErrShort)
	}
	width := int(b[next])
	next++
	if width > 63 {
		return refused(at, api.ErrLimit)
	}
	if width == 0 && n.Cmp(big.NewInt(65536)) > 0 {
		return refused(at, api.ErrLimit)
	}
	size := new(big.Int).Mul(n, big.NewInt(int64(width)))
	size.Add(size, big.NewInt(7)).Div(size, big.NewInt(8))
	if size.Cmp(big.NewInt(int64(len(b)-next))) > 0 {
		return refused(at, api.ErrShort)
	}
	end := next + int(size.Int64())
	list, ok := modelBits(b[next:end], int(n.Int64()), width)
	if !ok {
		return refused(at, api.ErrOrder)
	}
	return taken{list, end, nil}
}

// modelBits is the elements of a run of bits; false where a bit left over is 1, or the width isn't the least.
func modelBits(run []byte, n, width int) ([]int, bool) {
	list := make([]int, n)
	needed := width == 0
	for i := range 8 * len(run) {
		if run[i/8]>>(i%8)%2 == 0 {
			continue
		}
		if i >= n*width {
			return nil, false
		}
		list[i/width] += 1 << (i % width)
		needed = needed || i%width == width-1
	}
	return list, needed
}
