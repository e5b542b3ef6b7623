package schema

import (
	"concord/api"
	"concord/codec"
)

// Encode makes a schema's bytes.
func Encode(s api.Schema) ([]byte, error) {
	if Check(s) != nil {
		return nil, api.ErrSchema
	}
	w := codec.NewWriter()
	w.Uvarint(uint64(len(s.Fields)))
	for _, f := range s.Fields {
		w.Text(f.Name)
		w.Byte(fieldByte(f))
	}
	return w.Bytes(), nil
}

// Decode is the schema of these bytes.
func Decode(b []byte) (api.Schema, error) {
	s, bits, err := decodeFields(codec.NewReader(b))
	if err != nil {
		return api.Schema{}, err
	}
	if bits > allBits || Check(s) != nil {
		return api.Schema{}, api.ErrSchema
	}
	return s, nil
}

// decodeFields reads to the end ahead of any question about what was read, for the reader's errors come first. It answers the bits of all fields' bytes too, for a field has no place for a bit that it doesn't know.
func decodeFields(r *codec.Reader) (api.Schema, byte, error) {
	count, err := r.Upto(api.MaxFields)
	if err != nil {
		return api.Schema{}, 0, err
	}
	fields := make([]api.Field, count)
	bits := byte(0)
	for i := range fields {
		name, err := r.Text(api.MaxName)
		if err != nil {
			return api.Schema{}, 0, err
		}
		b, err := r.Byte()
		if err != nil {
			return api.Schema{}, 0, err
		}
		fields[i] = fieldOf(name, b)
		bits |= b
	}
	return api.Schema{Fields: fields}, bits, r.Done()
}
