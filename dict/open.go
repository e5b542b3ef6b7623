package dict

import (
	"concord/api"
	"concord/codec"
)

// leastEntry is the least number of bytes of an entry: the shared number, a length, a byte of the key, and four numbers.
const leastEntry = 7

// Open opens an image; what it keeps of it is a copy. What reads the image gives up by a panic at the first thing that Build doesn't make.
func Open(image []byte) (d *Dict, err error) {
	defer func() {
		if recover() != nil {
			d, err = nil, api.ErrCorrupt
		}
	}()
	r := codec.NewReader(image)
	entries := readEntries(r)
	need(r.Done() == nil)
	return &Dict{entries: entries}, nil
}

// need gives up unless ok holds.
func need(ok bool) {
	if !ok {
		panic(api.ErrCorrupt)
	}
}

// taken is what a Reader answered, if it answered no error.
func taken[T any](v T, err error) T {
	need(err == nil)
	return v
}

// readEntries reads all entries, those of a block up to where its length says that it ends.
func readEntries(r *codec.Reader) []api.Entry {
	// A greater number of entries isn't there, whatever is claimed: so no more room is taken than the bytes ask for.
	n := taken(r.Upto(r.Left() / leastEntry))
	lengths := readLengths(r, blocksOf(n))
	entries := make([]api.Entry, 0, n)
	for _, length := range lengths {
		begin := r.At()
		entries = readBlock(r, entries, min(api.BlockKeys, n-len(entries)))
		need(r.At()-begin == length)
	}
	return entries
}

// readLengths reads the lengths of so many blocks.
func readLengths(r *codec.Reader, blocks int) []int {
	lengths := make([]int, 0, blocks)
	for range blocks {
		lengths = append(lengths, taken(r.Upto(r.Left())))
	}
	return lengths
}

// readBlock reads the count entries of one block behind those that are read already.
func readBlock(r *codec.Reader, entries []api.Entry, count int) []api.Entry {
	// A block's first key is told whole, so that its bytes don't show that it rises.
	e := readEntry(r, "")
	need(len(entries) == 0 || entries[len(entries)-1].Key < e.Key)
	entries = append(entries, e)
	for range count - 1 {
		e = readEntry(r, e.Key)
		entries = append(entries, e)
	}
	return entries
}

// readEntry reads an entry whose key is told by the one before it, and greater.
func readEntry(r *codec.Reader, before string) api.Entry {
	shared := taken(r.Upto(len(before)))
	rest := taken(r.Text(mostKey - shared))
	need(len(rest) > 0)
	// A greater byte behind the shared ones: the key rises, and no more bytes are shared.
	need(shared == len(before) || before[shared] < rest[0])
	e := api.Entry{Key: before[:shared] + rest}
	e.Docs = taken(r.Upto(mostNumber))
	e.Total = taken(r.Upto(mostNumber))
	e.At = taken(r.Upto(mostNumber))
	e.Size = taken(r.Upto(mostNumber))
	return e
}
