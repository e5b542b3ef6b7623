package dict

import (
	"concord/api"
	"concord/codec"
)

// Build makes a dictionary's image.
func Build(entries []api.Entry) ([]byte, error) {
	if !keepLimits(entries) {
		return nil, api.ErrLimit
	}
	if !keysRise(entries) {
		return nil, api.ErrOrder
	}
	return imageOf(entries), nil
}

// keepLimits tells whether all keys and numbers are within their limits.
func keepLimits(entries []api.Entry) bool {
	for _, e := range entries {
		if len(e.Key) < 1 || len(e.Key) > mostKey {
			return false
		}
		for _, v := range numbersOf(e) {
			if v < 0 || v > mostNumber {
				return false
			}
		}
	}
	return true
}

// numbersOf are the four numbers of an entry, in the order in which they stand in the image.
func numbersOf(e api.Entry) [4]int {
	return [4]int{e.Docs, e.Total, e.At, e.Size}
}

// keysRise tells whether each key is greater than the one before it.
func keysRise(entries []api.Entry) bool {
	for i := 1; i < len(entries); i++ {
		if entries[i].Key <= entries[i-1].Key {
			return false
		}
	}
	return true
}

// imageOf is the image of good entries. The blocks are written apart from what stands ahead of them, which tells their lengths.
func imageOf(entries []api.Entry) []byte {
	head, blocks := codec.NewWriter(), codec.NewWriter()
	head.Uvarint(uint64(len(entries)))
	for from := 0; from < len(entries); from += api.BlockKeys {
		begin := blocks.Len()
		putBlock(blocks, entries[from:min(from+api.BlockKeys, len(entries))])
		head.Uvarint(uint64(blocks.Len() - begin))
	}
	return codec.Concat(head.Bytes(), blocks.Bytes())
}

// putBlock puts the entries of one block. The first one shares nothing, as if an empty key stood ahead of it.
func putBlock(w *codec.Writer, block []api.Entry) {
	before := ""
	for _, e := range block {
		shared := sharedBytes(before, e.Key)
		w.Uvarint(uint64(shared))
		w.Text(e.Key[shared:])
		for _, v := range numbersOf(e) {
			w.Uvarint(uint64(v))
		}
		before = e.Key
	}
}

// sharedBytes is the number of bytes with which both texts begin.
func sharedBytes(a, b string) int {
	n := 0
	for n < len(a) && n < len(b) && a[n] == b[n] {
		n++
	}
	return n
}
