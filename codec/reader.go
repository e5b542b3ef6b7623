package codec

import "concord/api"

// Span is a place in bytes; a Reader embeds it.
type Span struct {
	all []byte
	at  int
}

// At is the place: how many bytes have been read.
func (s *Span) At() int {
	return s.at
}

// Left is the number of bytes from the place to the end.
func (s *Span) Left() int {
	return len(s.all) - s.at
}

// Done answers ErrTail where bytes are left.
func (s *Span) Done() error {
	if s.Left() > 0 {
		return api.ErrTail
	}
	return nil
}

// Reader reads bytes from the front. Each of its calls looks ahead by functions that don't move, and moves when nothing can be refused any more.
type Reader struct{ Span }

// NewReader reads a copy of b, from the place 0.
func NewReader(b []byte) *Reader {
	return &Reader{Span{all: fresh(b)}}
}

// Byte reads a byte.
func (r *Reader) Byte() (byte, error) {
	if r.Left() < 1 {
		return 0, api.ErrShort
	}
	b := r.all[r.at]
	r.at++
	return b, nil
}

// Uvarint reads an unsigned number in its shortest form.
func (r *Reader) Uvarint() (uint64, error) {
	v, next, err := uvarintAt(r.all, r.at)
	if err != nil {
		return 0, err
	}
	r.at = next
	return v, nil
}

// Varint reads a signed number.
func (r *Reader) Varint() (int64, error) {
	u, err := r.Uvarint()
	return Zag(u), err
}

// Upto reads an unsigned number that is at most most.
func (r *Reader) Upto(most int) (int, error) {
	n, next, err := uptoAt(r.all, r.at, most)
	if err != nil {
		return 0, err
	}
	r.at = next
	return n, nil
}

// Word32 reads four bytes, the lowest first.
func (r *Reader) Word32() (uint32, error) {
	v, err := r.word(4)
	return uint32(v), err
}

// Word64 reads eight bytes, the lowest first.
func (r *Reader) Word64() (uint64, error) {
	return r.word(8)
}

func (r *Reader) word(size int) (uint64, error) {
	if r.Left() < size {
		return 0, api.ErrShort
	}
	v := uint64(0)
	for i := range size {
		v |= uint64(r.all[r.at+i]) << (8 * i)
	}
	r.at += size
	return v, nil
}

// Raw reads n bytes.
func (r *Reader) Raw(n int) ([]byte, error) {
	if n < 0 {
		return nil, api.ErrRange
	}
	if r.Left() < n {
		return nil, api.ErrShort
	}
	b := fresh(r.all[r.at : r.at+n])
	r.at += n
	return b, nil
}

// Text reads a text of at most most bytes with its length ahead of it.
func (r *Reader) Text(most int) (string, error) {
	n, at, err := uptoAt(r.all, r.at, most)
	if err != nil {
		return "", err
	}
	if len(r.all)-at < n {
		return "", api.ErrShort
	}
	r.at = at + n
	return string(r.all[at : at+n]), nil
}

// Rising reads a rising list of at most most elements.
func (r *Reader) Rising(most int) ([]int, error) {
	n, at, err := uptoAt(r.all, r.at, most)
	if err != nil {
		return nil, err
	}
	// An element has a byte at least: room is made for no more than the bytes can hold, whatever they claim.
	list := make([]int, 0, min(n, len(r.all)-at))
	least := uint64(0)
	for len(list) < n {
		step, next, err := uvarintAt(r.all, at)
		if err != nil {
			return nil, err
		}
		if least > greatest || step > greatest-least {
			return nil, api.ErrLimit
		}
		list = append(list, int(least+step))
		least += step + 1
		at = next
	}
	r.at = at
	return list, nil
}

// Packed reads a list of at most most elements of one width.
func (r *Reader) Packed(most int) ([]int, error) {
	n, at, err := uptoAt(r.all, r.at, most)
	if err != nil {
		return nil, err
	}
	if n == 0 {
		r.at = at
		return nil, nil
	}
	if at == len(r.all) {
		return nil, api.ErrShort
	}
	width := int(r.all[at])
	at++
	if width > mostWidth || width == 0 && n > mostNoughts {
		return nil, api.ErrLimit
	}
	// By dividing, for a claimed number times the width may be beyond an int.
	if width > 0 && n > (len(r.all)-at)*8/width {
		return nil, api.ErrShort
	}
	end := at + (n*width+7)/8
	list := unpack(r.all[at:end], n, width)
	if !tight(r.all[at:end], list, width) {
		return nil, api.ErrOrder
	}
	r.at = end
	return list, nil
}

// unpack is the n elements of a run of bits.
func unpack(run []byte, n, width int) []int {
	list := make([]int, n)
	bit := 0
	for i := range list {
		v := uint64(0)
		for got := 0; got < width; {
			take := min(width-got, 8-bit%8)
			piece := uint64(run[bit/8]) >> (bit % 8) & (1<<take - 1)
			v |= piece << got
			got += take
			bit += take
		}
		list[i] = int(v)
	}
	return list
}

// tight tells whether a Writer would put this run of bits for this list: no bit left over is set, and no less width would do.
func tight(run []byte, list []int, width int) bool {
	over := len(list) * width % 8
	if over > 0 && run[len(run)-1]>>over != 0 {
		return false
	}
	return widthOf(list) == width
}

// uvarintAt is the uvarint at a place, and the place behind it.
func uvarintAt(b []byte, at int) (uint64, int, error) {
	v := uint64(0)
	for i := 0; ; i++ {
		if at+i >= len(b) {
			return 0, 0, api.ErrShort
		}
		c := b[at+i]
		if i == 9 && c > 1 {
			return 0, 0, api.ErrVarint
		}
		v |= uint64(c&127) << (7 * i)
		if c < 128 {
			if c == 0 && i > 0 {
				return 0, 0, api.ErrVarint
			}
			return v, at + i + 1, nil
		}
	}
}

// uptoAt is the uvarint at a place if it is at most most, and the place behind it.
func uptoAt(b []byte, at, most int) (int, int, error) {
	v, next, err := uvarintAt(b, at)
	if err != nil {
		return 0, 0, err
	}
	if most < 0 || v > uint64(most) {
		return 0, 0, api.ErrLimit
	}
	return int(v), next, nil
}
