package frame

import (
	"bytes"

	"concord/api"
	"concord/codec"
)

const (
	// letters begin every image.
	letters = "cncd"
	// headSize is the number of bytes of the letters and the kind.
	headSize = len(letters) + 1
	// leastImage is the number of bytes of an image without blocks.
	leastImage = headSize + 1 + sumSize
)

// Pack makes an image of blocks.
func Pack(kind byte, blocks []api.Block) ([]byte, error) {
	if kind == 0 {
		return nil, api.ErrTag
	}
	w := codec.NewWriter()
	w.Raw(head(kind))
	w.Uvarint(uint64(len(blocks)))
	for _, block := range blocks {
		b, err := Encode(block.Tag, block.Body)
		if err != nil {
			return nil, err
		}
		w.Raw(b)
	}
	w.Word32(Seal(w.Bytes()))
	return w.Bytes(), nil
}

// head is what an image of that kind begins with.
func head(kind byte) []byte {
	return append([]byte(letters), kind)
}

// Unpack answers an image's blocks.
func Unpack(kind byte, image []byte) ([]api.Block, error) {
	if len(image) < leastImage {
		return nil, api.ErrShort
	}
	sealed := image[:len(image)-sumSize]
	if !endsWith(image, Seal(sealed)) {
		return nil, api.ErrSum
	}
	if kind == 0 || !bytes.HasPrefix(sealed, head(kind)) {
		return nil, api.ErrTag
	}
	return listed(sealed[headSize:])
}

// listed answers the blocks of b: their number, and their bytes behind it, without a byte left over. The list grows with the blocks that are there, whatever number is claimed.
func listed(b []byte) ([]api.Block, error) {
	count, at, err := leadingNumber(b)
	if err != nil {
		return nil, err
	}
	var blocks []api.Block
	for uint64(len(blocks)) < count {
		block, size, err := Decode(b[at:])
		if err != nil {
			return nil, err
		}
		blocks = append(blocks, block)
		at += size
	}
	if at < len(b) {
		return nil, api.ErrTail
	}
	return blocks, nil
}
