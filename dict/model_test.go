package dict_test

import (
	"bytes"
	"strings"

	"concord/api"
)

// This file says the chapter once more: the image number by number, a search from the first entry on, and an opening that takes what it can and then asks whether just these bytes are the image of what it found.

func appendUvarint(b []byte, v int) []byte {
	for ; v >= 128; v /= 128 {
		b = append(b, byte(v%128+128))
	}
	return append(b, byte(v))
}

func modelUvarint(v int) []byte {
	return appendUvarint(nil, v)
}

// pieces are numbers and texts of an image, one behind the other; a piece is all bytes of one of them.
type pieces [][]byte

func (p *pieces) number(v int) { *p = append(*p, modelUvarint(v)) }

// told is an entry as an image may tell it, rightly or wrongly.
type told struct {
	shared int
	rest   string
	nums   [4]int
}

func (x told) bytes() []byte {
	return x.appended(nil)
}

func (x told) appended(b []byte) []byte {
	b = appendUvarint(b, x.shared)
	b = appendUvarint(b, len(x.rest))
	b = append(b, x.rest...)
	for _, v := range x.nums {
		b = appendUvarint(b, v)
	}
	return b
}

// toldOf is how Build tells the entries, block by block.
func toldOf(entries []api.Entry) [][]told {
	var blocks [][]told
	for i, e := range entries {
		if i%16 == 0 {
			blocks = append(blocks, nil)
		}
		shared := 0
		if i%16 > 0 {
			for shared = len(e.Key); !strings.HasPrefix(entries[i-1].Key, e.Key[:shared]); shared-- {
			}
		}
		last := len(blocks) - 1
		blocks[last] = append(blocks[last], told{shared, e.Key[shared:], [4]int{e.Docs, e.Total, e.At, e.Size}})
	}
	return blocks
}

// toldImage is the image in which the entries stand as they are told; its own number and lengths are right.
func toldImage(blocks [][]told) []byte {
	n := 0
	var lengths, bodies []byte
	for _, block := range blocks {
		var body []byte
		for _, x := range block {
			body = x.appended(body)
		}
		n += len(block)
		lengths = append(lengths, modelUvarint(len(body))...)
		bodies = append(bodies, body...)
	}
	return bytes.Join([][]byte{modelUvarint(n), lengths, bodies}, nil)
}

func modelImage(entries []api.Entry) []byte {
	return toldImage(toldOf(entries))
}

// modelFault is what Build answers beside an image.
func modelFault(entries []api.Entry) error {
	for _, e := range entries {
		least := min(e.Docs, e.Total, e.At, e.Size)
		most := max(e.Docs, e.Total, e.At, e.Size)
		if e.Key == "" || len(e.Key) > 65 || least < 0 || most > 2147483647 {
			return api.ErrLimit
		}
	}
	for i := range entries {
		if i > 0 && strings.Compare(entries[i-1].Key, entries[i].Key) >= 0 {
			return api.ErrOrder
		}
	}
	return nil
}

// loose reads bytes without asking whether they are in order; bad says that they ended.
type loose struct {
	left []byte
	bad  bool
}

func (l *loose) number() int {
	v := 0
	for shift := 0; ; shift += 7 {
		if len(l.left) == 0 || shift > 56 {
			l.bad = true
			return 0
		}
		b := l.left[0]
		l.left = l.left[1:]
		v |= int(b&127) << shift
		if b < 128 {
			return v
		}
	}
}

func (l *loose) text(n int) string {
	if n > len(l.left) {
		l.bad = true
		return ""
	}
	text := string(l.left[:n])
	l.left = l.left[n:]
	return text
}

// modelOpen takes the entries that the bytes seem to tell, and holds the image of these against the bytes.
func modelOpen(image []byte) ([]api.Entry, bool) {
	l := &loose{left: image}
	n := l.number()
	if n > len(image) {
		return nil, false
	}
	for range (n + 15) / 16 {
		l.number()
	}
	var entries []api.Entry
	key := ""
	for range n {
		shared := l.number()
		rest := l.text(l.number())
		if l.bad || shared > len(key) {
			return nil, false
		}
		key = key[:shared] + rest
		e := api.Entry{Key: key}
		for _, to := range []*int{&e.Docs, &e.Total, &e.At, &e.Size} {
			*to = l.number()
		}
		entries = append(entries, e)
	}
	ok := !l.bad && modelFault(entries) == nil && bytes.Equal(modelImage(entries), image)
	return entries, ok
}

func modelFind(entries []api.Entry, key string) (int, bool) {
	for i, e := range entries {
		if e.Key == key {
			return i, true
		}
	}
	return 0, false
}

func modelSeek(entries []api.Entry, key string) int {
	for i, e := range entries {
		if strings.Compare(e.Key, key) >= 0 {
			return i
		}
	}
	return len(entries)
}

func modelHeads(entries []api.Entry, head string) (int, int) {
	from, to := -1, -1
	for i, e := range entries {
		if strings.HasPrefix(e.Key, head) {
			if from < 0 {
				from = i
			}
			to = i + 1
		}
	}
	if from < 0 {
		from = modelSeek(entries, head)
		to = from
	}
	return from, to
}
