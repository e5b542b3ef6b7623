package isa

import (
	"concord/api"
	"concord/codec"
)

// Encode makes the bytes of instructions; ErrCode, if one has no operation of the table or an operand that its operation doesn't have.
func Encode(list []api.Instr) ([]byte, error) {
	w := codec.NewWriter()
	for _, in := range list {
		if !hasBytes(in) {
			return nil, api.ErrCode
		}
		put(w, in)
	}
	return w.Bytes(), nil
}

// hasBytes tells whether an instruction can be told by its bytes, which have no place for an operand too many.
func hasBytes(in api.Instr) bool {
	n, ok := Args(in.Op)
	return ok && (n >= 1 || in.A == 0) && (n >= 2 || in.B == 0)
}

// put writes the bytes of an instruction that has some.
func put(w *codec.Writer, in api.Instr) {
	w.Byte(byte(in.Op))
	for _, v := range operands(in) {
		w.Uvarint(v)
	}
}

// Decode is the instructions of these bytes; ErrCode, if they are those of none.
func Decode(b []byte) ([]api.Instr, error) {
	r := codec.NewReader(b)
	var list []api.Instr
	for r.Left() > 0 {
		in, ok := take(r)
		if !ok {
			return nil, api.ErrCode
		}
		list = append(list, in)
	}
	return list, nil
}

// take reads an instruction; false, if what comes next is none.
func take(r *codec.Reader) (api.Instr, bool) {
	op, err := r.Byte()
	if err != nil {
		return api.Instr{}, false
	}
	n, ok := Args(int(op))
	if !ok {
		return api.Instr{}, false
	}
	var both [2]uint64
	for i := range n {
		v, err := r.Uvarint()
		if err != nil {
			return api.Instr{}, false
		}
		both[i] = v
	}
	return api.Instr{Op: int(op), A: both[0], B: both[1]}, true
}
