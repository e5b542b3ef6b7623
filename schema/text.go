package schema

import (
	"strings"

	"concord/api"
)

// kinds are the words of the kinds, in the order of their numbers from KindText on.
var kinds = [...]string{"text", "keyword", "number"}

// marks are the words of a chain with what stands ahead of them, in the order of their bits from foldBit on: the order in which they must stand.
var marks = [...]string{",fold", ",stop", ",stem"}

// Text is a schema's text.
func Text(s api.Schema) (string, error) {
	if Check(s) != nil {
		return "", api.ErrSchema
	}
	var out strings.Builder
	for i, f := range s.Fields {
		if i > 0 {
			out.WriteByte(';')
		}
		writeField(&out, f)
	}
	return out.String(), nil
}

func writeField(out *strings.Builder, f api.Field) {
	out.WriteString(f.Name)
	out.WriteByte(':')
	out.WriteString(kinds[f.Kind-api.KindText])
	for i, mark := range marks {
		if fieldByte(f)&(foldBit<<i) != 0 {
			out.WriteString(mark)
		}
	}
}

// Parse reads a schema's text.
func Parse(text string) (api.Schema, error) {
	fields, ok := readFields(text)
	s := api.Schema{Fields: fields}
	if !ok || Check(s) != nil {
		return api.Schema{}, api.ErrSchema
	}
	return s, nil
}

// readFields reads field by field; false, where the text is no list of fields, or has more than a schema may have. The names, and whether a field may have its chain, are left to Check.
func readFields(text string) ([]api.Field, bool) {
	var fields []api.Field
	rest := text
reading:
	for len(fields) < api.MaxFields {
		name, behind, ok := strings.Cut(rest, ":")
		if !ok {
			break reading
		}
		b, behind := readKind(behind)
		if b == 0 {
			break reading
		}
		for {
			if behind == "" {
				return append(fields, fieldOf(strings.Clone(name), b)), true
			}
			if behind[0] == ';' {
				fields = append(fields, fieldOf(strings.Clone(name), b))
				rest = behind[1:]
				continue reading
			}
			bit, next := readMark(behind, b)
			if bit == 0 {
				break reading
			}
			b, behind = b|bit, next
		}
	}
	return nil, false
}

// readKind is the kind with whose word a text begins, and what stands behind the word; 0, if it begins with none.
func readKind(text string) (byte, string) {
	for i, word := range kinds {
		if rest, ok := strings.CutPrefix(text, word); ok {
			return byte(api.KindText + i), rest
		}
	}
	return 0, ""
}

// readMark is the bit of the mark with which a text begins, and what stands behind the mark; 0, if it begins with none that may follow those of the field's byte so far. Bits rise in the order of the marks: one above the byte is neither doubled nor too late.
func readMark(text string, b byte) (byte, string) {
	for i, mark := range marks {
		bit := byte(foldBit) << i
		if rest, ok := strings.CutPrefix(text, mark); ok && bit > b {
			return bit, rest
		}
	}
	return 0, ""
}
