package frame_test

import (
	"math/big"

	"concord/api"
)

// This file says the chapter once more, bit by bit and byte by byte, so that the package can be held against it.

const (
	sumNumber  = uint32(0xEDB88320)
	sealNumber = uint32(0x82F63B78)
	allSet     = uint32(0xFFFFFFFF)
)

// modelRegister is step 2 of the chapter's sum.
func modelRegister(number, register uint32, b []byte) uint32 {
	for _, c := range b {
		register ^= uint32(c)
		for range 8 {
			low := register & 1
			register >>= 1
			if low == 1 {
				register ^= number
			}
		}
	}
	return register
}

func modelSum(b []byte) uint32 {
	return modelRegister(sumNumber, allSet, b) ^ allSet
}

func modelSeal(b []byte) uint32 {
	return modelRegister(sealNumber, allSet, b) ^ allSet
}

func modelExtend(sum uint32, b []byte) uint32 {
	return modelRegister(sumNumber, sum^allSet, b) ^ allSet
}

// modelJoin walks over n noughts; it is for a small n.
func modelJoin(a, b uint32, n int) uint32 {
	return modelRegister(sumNumber, a, make([]byte, max(n, 0))) ^ b
}

// matrix tells for each bit of a register what becomes of it: exclusive or goes through every step bit by bit.
type matrix [32]uint32

func (m matrix) of(register uint32) uint32 {
	out := uint32(0)
	for i, column := range m {
		if register>>i&1 == 1 {
			out ^= column
		}
	}
	return out
}

func (m matrix) behind(first matrix) matrix {
	var out matrix
	for i, column := range first {
		out[i] = m.of(column)
	}
	return out
}

// modelJoinFar is modelJoin for a great n, by squaring the matrix of one nought.
func modelJoinFar(a, b uint32, n int) uint32 {
	var m matrix
	for i := range m {
		m[i] = modelRegister(sumNumber, 1<<i, []byte{0})
	}
	for ; n > 0; n >>= 1 {
		if n&1 == 1 {
			a = m.of(a)
		}
		m = m.behind(m)
	}
	return a ^ b
}

func modelWord(v uint32) []byte {
	return []byte{byte(v), byte(v >> 8), byte(v >> 16), byte(v >> 24)}
}

func modelUvarint(v int) []byte {
	var out []byte
	for ; v > 127; v /= 128 {
		out = append(out, byte(v%128+128))
	}
	return append(out, byte(v))
}

// readUvarint is layer 1's Uvarint over b, with the number of bytes read.
func readUvarint(b []byte) (*big.Int, int, error) {
	v, unit := new(big.Int), big.NewInt(1)
	for i := 0; ; i++ {
		if i == len(b) {
			return nil, 0, api.ErrShort
		}
		if i == 9 && b[i] > 1 {
			return nil, 0, api.ErrVarint
		}
		v.Add(v, new(big.Int).Mul(unit, big.NewInt(int64(b[i]%128))))
		unit.Mul(unit, big.NewInt(128))
		if b[i] >= 128 {
			continue
		}
		if b[i] == 0 && i > 0 {
			return nil, 0, api.ErrVarint
		}
		return v, i + 1, nil
	}
}

func modelEncode(tag byte, body []byte) []byte {
	out := append([]byte{tag}, modelUvarint(len(body))...)
	out = append(out, body...)
	return append(out, modelWord(modelSum(out))...)
}

func modelDecode(b []byte) (api.Block, int, error) {
	none := api.Block{}
	if len(b) == 0 {
		return none, 0, api.ErrShort
	}
	if b[0] == 0 {
		return none, 0, api.ErrTag
	}
	size, used, err := readUvarint(b[1:])
	if err != nil {
		return none, 0, err
	}
	behind := big.NewInt(int64(len(b) - 1 - used))
	if behind.Cmp(new(big.Int).Add(size, big.NewInt(4))) < 0 {
		return none, 0, api.ErrShort
	}
	end := 1 + used + int(size.Int64())
	if string(b[end:end+4]) != string(modelWord(modelSum(b[:end]))) {
		return none, 0, api.ErrSum
	}
	return api.Block{Tag: b[0], Body: b[1+used : end]}, end + 4, nil
}

// told is a step of Scan.
type told struct {
	at    int
	block api.Block
}

func modelScan(b []byte) []told {
	var out []told
	at := 0
	for {
		block, size, err := modelDecode(b[at:])
		if err != nil {
			return out
		}
		out = append(out, told{at, block})
		at += size
	}
}

// modelSealed puts the seal behind b.
func modelSealed(b []byte) []byte {
	return append(append([]byte{}, b...), modelWord(modelSeal(b))...)
}

func modelPack(kind byte, blocks []api.Block) []byte {
	out := append([]byte{99, 110, 99, 100, kind}, modelUvarint(len(blocks))...)
	for _, block := range blocks {
		out = append(out, modelEncode(block.Tag, block.Body)...)
	}
	return modelSealed(out)
}

func modelUnpack(kind byte, image []byte) ([]api.Block, error) {
	if len(image) < 10 {
		return nil, api.ErrShort
	}
	ahead := image[:len(image)-4]
	if string(modelSealed(ahead)) != string(image) {
		return nil, api.ErrSum
	}
	if kind == 0 || string(image[:4]) != "cncd" || image[4] != kind {
		return nil, api.ErrTag
	}
	rest := ahead[5:]
	count, used, err := readUvarint(rest)
	if err != nil {
		return nil, err
	}
	rest = rest[used:]
	var blocks []api.Block
	for big.NewInt(int64(len(blocks))).Cmp(count) < 0 {
		block, size, err := modelDecode(rest)
		if err != nil {
			return nil, err
		}
		blocks = append(blocks, block)
		rest = rest[size:]
	}
	if len(rest) > 0 {
		return nil, api.ErrTail
	}
	return blocks, nil
}
