package docset_test

import (
	"concord/api"
)

// This file says the chapter once more, number by number and form by form, so that the package can be held against it.

// model is a set of the size len(model).
type model []bool

func modelOf(n int, list ...int) model {
	m := make(model, n)
	for _, i := range list {
		m[i] = true
	}
	return m
}

func (m model) members() []int {
	var list []int
	for i, in := range m {
		if in {
			list = append(list, i)
		}
	}
	return list
}

func (m model) has(i int) bool {
	return i >= 0 && i < len(m) && m[i]
}

// runs begin where the number before is no member, and end where the next is none.
func (m model) runs() [][2]int {
	var list [][2]int
	for first := range m {
		if !m.has(first) || m.has(first-1) {
			continue
		}
		last := first
		for m.has(last + 1) {
			last++
		}
		list = append(list, [2]int{first, last})
	}
	return list
}

// joined is the model of the numbers for which keep says so.
func (m model) joined(o model, keep func(a, b bool) bool) model {
	out := make(model, len(m))
	for i := range m {
		out[i] = keep(m[i], o[i])
	}
	return out
}

func inBoth(a, b bool) bool  { return a && b }
func inOne(a, b bool) bool   { return a || b }
func inFirst(a, b bool) bool { return a && !b }

func (m model) not() model {
	return m.joined(m, func(a, _ bool) bool { return !a })
}

func modelUvarint(v int) []byte {
	var b []byte
	for ; v >= 128; v /= 128 {
		b = append(b, byte(v%128+128))
	}
	return append(b, byte(v))
}

// formsOf is, by tag, each form that a block may have; nil where it may not.
func formsOf(block []bool) [5][]byte {
	var members, others []byte
	bits := make([]byte, (len(block)+7)/8)
	for i, in := range block {
		if in {
			members = append(members, byte(i))
			bits[i/8] += 1 << (i % 8)
		} else {
			others = append(others, byte(i))
		}
	}
	var forms [5][]byte
	if len(members) == 0 {
		forms[0] = []byte{0}
	}
	if len(others) == 0 {
		forms[1] = []byte{1}
	}
	if len(members) > 0 && len(others) > 0 {
		forms[2] = append([]byte{2, byte(len(members) - 1)}, members...)
		forms[3] = append([]byte{3, byte(len(others) - 1)}, others...)
		forms[4] = append([]byte{4}, bits...)
	}
	return forms
}

// bestOf is the form with the fewest bytes; of several, that of the lowest tag.
func bestOf(forms [5][]byte) []byte {
	var best []byte
	for _, form := range forms {
		if form != nil && (best == nil || len(form) < len(best)) {
			best = form
		}
	}
	return best
}

// blocks are the set's blocks, the last one perhaps shorter.
func (m model) blocks() [][]bool {
	var list [][]bool
	for at := 0; at < len(m); at += 256 {
		list = append(list, m[at:min(at+256, len(m))])
	}
	return list
}

func (m model) encode() []byte {
	b := modelUvarint(len(m))
	for _, block := range m.blocks() {
		b = append(b, bestOf(formsOf(block))...)
	}
	return b
}

// readUvarint is the uvarint with which b begins, as far as it can be a size, and its bytes.
func readUvarint(b []byte) (int, int, bool) {
	v := 0
	for i := 0; i < len(b) && i < 5; i++ {
		v += int(b[i]%128) << (7 * i)
		if b[i] < 128 {
			return v, i + 1, i == 0 || b[i] != 0
		}
	}
	return 0, 0, false
}

// readBlock is the block of w numbers with which b begins, and its bytes; every rule is asked for one by one.
func readBlock(b []byte, w int) ([]bool, int, bool) {
	if len(b) == 0 {
		return nil, 0, false
	}
	block, size := make([]bool, w), 1
	switch b[0] {
	case 0:
	case 1:
		for i := range block {
			block[i] = true
		}
	case 2, 3:
		if len(b) < 2 || len(b) < 3+int(b[1]) {
			return nil, 0, false
		}
		size = 3 + int(b[1])
		for i := range block {
			block[i] = b[0] == 3
		}
		before := -1
		for _, x := range b[2:size] {
			if int(x) <= before || int(x) >= w {
				return nil, 0, false
			}
			block[x] = b[0] == 2
			before = int(x)
		}
	case 4:
		size = 1 + (w+7)/8
		if len(b) < size {
			return nil, 0, false
		}
		for i := range 8 * (size - 1) {
			in := b[1+i/8]>>(i%8)%2 == 1
			if i < w {
				block[i] = in
			} else if in {
				return nil, 0, false
			}
		}
	default:
		return nil, 0, false
	}
	return block, size, isBest(b[0], block)
}

// isBest tells whether that tag's form may be used, and is the one to use.
func isBest(tag byte, block []bool) bool {
	best := bestOf(formsOf(block))
	return best[0] == tag
}

func modelDecode(b []byte) (model, error) {
	n, at, ok := readUvarint(b)
	if !ok || n > 1048576 {
		return nil, api.ErrCorrupt
	}
	m := model{}
	for len(m) < n {
		block, size, ok := readBlock(b[at:], min(256, n-len(m)))
		if !ok {
			return nil, api.ErrCorrupt
		}
		m = append(m, block...)
		at += size
	}
	if at < len(b) {
		return nil, api.ErrCorrupt
	}
	return m, nil
}
