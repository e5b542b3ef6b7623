package codec

import "concord/api"

// Writer gathers bytes.
type Writer struct {
	held []byte
}

// NewWriter answers a Writer that holds no byte.
func NewWriter() *Writer {
	return &Writer{}
}

// Byte puts a byte.
func (w *Writer) Byte(b byte) {
	w.held = append(w.held, b)
}

// Uvarint puts an unsigned number in as few bytes as it can have.
func (w *Writer) Uvarint(v uint64) {
	for v >= 128 {
		w.held = append(w.held, byte(v)|128)
		v >>= 7
	}
	w.held = append(w.held, byte(v))
}

// Varint puts a signed number.
func (w *Writer) Varint(v int64) {
	w.Uvarint(Zig(v))
}

// Word32 puts four bytes, the lowest first.
func (w *Writer) Word32(v uint32) {
	w.word(uint64(v), 4)
}

// Word64 puts eight bytes, the lowest first.
func (w *Writer) Word64(v uint64) {
	w.word(v, 8)
}

func (w *Writer) word(v uint64, size int) {
	for range size {
		w.held = append(w.held, byte(v))
		v >>= 8
	}
}

// Raw puts bytes as they are.
func (w *Writer) Raw(b []byte) {
	w.held = append(w.held, b...)
}

// Text puts a text with its length ahead of it.
func (w *Writer) Text(s string) {
	w.Uvarint(uint64(len(s)))
	w.held = append(w.held, s...)
}

// Rising puts a rising list. All of it is looked at first: a refused list puts nothing.
func (w *Writer) Rising(list []int) error {
	if hasBelow(list) {
		return api.ErrRange
	}
	if !rises(list) {
		return api.ErrOrder
	}
	w.Uvarint(uint64(len(list)))
	least := 0
	for _, x := range list {
		w.Uvarint(uint64(x - least))
		least = x + 1
	}
	return nil
}

// Packed puts a list of numbers, all of one width. All of it is looked at first: a refused list puts nothing.
func (w *Writer) Packed(list []int) error {
	if hasBelow(list) {
		return api.ErrRange
	}
	width := widthOf(list)
	if width == 0 && len(list) > mostNoughts {
		return api.ErrLimit
	}
	w.Uvarint(uint64(len(list)))
	if len(list) > 0 {
		w.Byte(byte(width))
		w.run(list, width)
	}
	return nil
}

// run puts the elements' bits. It fills byte by byte, for an element of 63 bits has no room in a word that waits with some.
func (w *Writer) run(list []int, width int) {
	last, used := byte(0), 0
	for _, x := range list {
		v := uint64(x)
		for left := width; left > 0; {
			take := min(left, 8-used)
			last |= byte(v << used)
			v >>= take
			left -= take
			used += take
			if used == 8 {
				w.held = append(w.held, last)
				last, used = 0, 0
			}
		}
	}
	if used > 0 {
		w.held = append(w.held, last)
	}
}

// Len is the number of bytes that the Writer holds.
func (w *Writer) Len() int {
	return len(w.held)
}

// Bytes answers them, as new memory.
func (w *Writer) Bytes() []byte {
	return fresh(w.held)
}

// Reset takes all bytes away.
func (w *Writer) Reset() {
	w.held = nil
}

func hasBelow(list []int) bool {
	for _, x := range list {
		if x < 0 {
			return true
		}
	}
	return false
}

func rises(list []int) bool {
	for i := 1; i < len(list); i++ {
		if list[i] <= list[i-1] {
			return false
		}
	}
	return true
}
