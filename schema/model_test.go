package schema_test

import (
	"fmt"
	"math/big"
	"math/rand"
	"regexp"
	"strings"

	"concord/api"
)

// The model says the chapter's sentences by other means than the package: names, texts and numbers by regular expressions, fields one against another, numbers that don't wrap round.

var (
	nameForm   = regexp.MustCompile(`\A[a-z][a-z0-9_]*\z`)
	fieldForm  = regexp.MustCompile(`\A([a-z][a-z0-9_]{0,31}):(?:(text)(,fold)?(,stop)?(,stem)?|(keyword)|(number))\z`)
	numberForm = regexp.MustCompile(`\A-?[0-9]+\z`)
)

func modelGood(s api.Schema) bool {
	if len(s.Fields) < 1 || len(s.Fields) > 16 {
		return false
	}
	for i, f := range s.Fields {
		if !nameForm.MatchString(f.Name) || len(f.Name) > 32 {
			return false
		}
		if f.Kind != 1 && f.Kind != 2 && f.Kind != 3 {
			return false
		}
		if f.Kind != 1 && (f.Fold || f.Stop || f.Stem) {
			return false
		}
		for _, g := range s.Fields[:i] {
			if f.Name == g.Name {
				return false
			}
		}
	}
	return true
}

func modelCheck(s api.Schema) error {
	if !modelGood(s) {
		return api.ErrSchema
	}
	return nil
}

func modelText(s api.Schema) (string, error) {
	if !modelGood(s) {
		return "", api.ErrSchema
	}
	var list []string
	for _, f := range s.Fields {
		text := f.Name + ":" + []string{"", "text", "keyword", "number"}[f.Kind]
		if f.Fold {
			text += ",fold"
		}
		if f.Stop {
			text += ",stop"
		}
		if f.Stem {
			text += ",stem"
		}
		list = append(list, text)
	}
	return strings.Join(list, ";"), nil
}

func modelParse(text string) (api.Schema, error) {
	var s api.Schema
	for _, part := range strings.Split(text, ";") {
		m := fieldForm.FindStringSubmatch(part)
		if m == nil {
			return api.Schema{}, api.ErrSchema
		}
		f := api.Field{Name: m[1], Fold: m[3] != "", Stop: m[4] != "", Stem: m[5] != ""}
		for kind, word := range map[int]string{1: m[2], 2: m[6], 3: m[7]} {
			if word != "" {
				f.Kind = kind
			}
		}
		s.Fields = append(s.Fields, f)
	}
	if !modelGood(s) {
		return api.Schema{}, api.ErrSchema
	}
	return s, nil
}

// modelEncode: every number that stands in a good schema's bytes is below 128, a uvarint of one byte.
func modelEncode(s api.Schema) ([]byte, error) {
	if !modelGood(s) {
		return nil, api.ErrSchema
	}
	b := []byte{byte(len(s.Fields))}
	for _, f := range s.Fields {
		b = append(b, byte(len(f.Name)))
		b = append(b, f.Name...)
		last := f.Kind
		for bit, on := range map[int]bool{4: f.Fold, 8: f.Stop, 16: f.Stem} {
			if on {
				last += bit
			}
		}
		b = append(b, byte(last))
	}
	return b, nil
}

// modelUpto is the uvarint with which b begins, and what stands behind it.
func modelUpto(b []byte, most int64) (int, []byte, error) {
	sum := new(big.Int)
	for i, c := range b {
		if i == 9 && c > 1 {
			return 0, nil, api.ErrVarint
		}
		group := big.NewInt(int64(c % 128))
		sum.Add(sum, group.Lsh(group, uint(7*i)))
		if c >= 128 {
			continue
		}
		if c == 0 && i > 0 {
			return 0, nil, api.ErrVarint
		}
		if sum.Cmp(big.NewInt(most)) > 0 {
			return 0, nil, api.ErrLimit
		}
		return int(sum.Int64()), b[i+1:], nil
	}
	return 0, nil, api.ErrShort
}

func modelDecode(b []byte) (api.Schema, error) {
	count, b, err := modelUpto(b, 16)
	if err != nil {
		return api.Schema{}, err
	}
	var s api.Schema
	above := false
	for range count {
		size, rest, err := modelUpto(b, 32)
		if err != nil {
			return api.Schema{}, err
		}
		if len(rest) < size+1 {
			return api.Schema{}, api.ErrShort
		}
		last := int(rest[size])
		above = above || last > 31
		s.Fields = append(s.Fields, api.Field{
			Name: string(rest[:size]),
			Kind: last % 4,
			Fold: last/4%2 == 1,
			Stop: last/8%2 == 1,
			Stem: last/16%2 == 1,
		})
		b = rest[size+1:]
	}
	if len(b) > 0 {
		return api.Schema{}, api.ErrTail
	}
	if above || !modelGood(s) {
		return api.Schema{}, api.ErrSchema
	}
	return s, nil
}

func modelFind(s api.Schema, name string) (int, bool) {
	for i, f := range s.Fields {
		if f.Name == name {
			return i, true
		}
	}
	return 0, false
}

var (
	leastNumber    = new(big.Int).Neg(new(big.Int).Lsh(big.NewInt(1), 63))
	greatestNumber = new(big.Int).Sub(new(big.Int).Lsh(big.NewInt(1), 63), big.NewInt(1))
)

func modelNumber(text string) (int64, bool) {
	if !numberForm.MatchString(text) {
		return 0, false
	}
	v, ok := new(big.Int).SetString(text, 10)
	if !ok || v.Cmp(leastNumber) < 0 || v.Cmp(greatestNumber) > 0 {
		return 0, false
	}
	return v.Int64(), true
}

// modelTerm is the number plus 2^63, the highest byte first.
func modelTerm(v int64) string {
	word := new(big.Int).Lsh(big.NewInt(1), 63)
	word.Add(word, big.NewInt(v))
	return string(word.FillBytes(make([]byte, 8)))
}

func modelValues(s api.Schema, values []api.Value) error {
	if !modelGood(s) {
		return api.ErrSchema
	}
	if len(values) > 64 {
		return api.ErrLimit
	}
	for _, v := range values {
		i, ok := modelFind(s, v.Name)
		if !ok {
			return api.ErrField
		}
		if len(v.Text) > 4096 {
			return api.ErrLimit
		}
		if s.Fields[i].Kind == api.KindKeyword && (v.Text == "" || len(v.Text) > 64) {
			return api.ErrValue
		}
		if _, ok := modelNumber(v.Text); s.Fields[i].Kind == api.KindNumber && !ok {
			return api.ErrValue
		}
	}
	return nil
}

// schemaOf is the schema of these fields, without any question.
func schemaOf(fields ...api.Field) api.Schema {
	return api.Schema{Fields: fields}
}

func sameSchema(a, b api.Schema) bool {
	if len(a.Fields) != len(b.Fields) {
		return false
	}
	for i := range a.Fields {
		if a.Fields[i] != b.Fields[i] {
			return false
		}
	}
	return true
}

// fieldsOf are n good fields of unlike names and of all kinds.
func fieldsOf(n int) []api.Field {
	list := make([]api.Field, n)
	for i := range list {
		list[i] = api.Field{Name: fmt.Sprintf("f%d", i), Kind: 1 + i%3}
		if list[i].Kind == api.KindText {
			list[i].Fold, list[i].Stop, list[i].Stem = i%2 == 0, i%4 < 2, i%5 < 2
		}
	}
	return list
}

const (
	letters = "abcdefghijklmnopqrstuvwxyz"
	behinds = letters + "0123456789_"
)

func someName(dice *rand.Rand) string {
	b := []byte{letters[dice.Intn(len(letters))]}
	for range min(dice.Intn(33), dice.Intn(33), 31) {
		b = append(b, behinds[dice.Intn(len(behinds))])
	}
	return string(b)
}

// someGood is a good schema.
func someGood(dice *rand.Rand) api.Schema {
	var s api.Schema
	for want := 1 + dice.Intn(16); len(s.Fields) < want; {
		f := api.Field{Name: someName(dice), Kind: 1 + dice.Intn(3)}
		if f.Kind == api.KindText {
			f.Fold, f.Stop, f.Stem = dice.Intn(2) == 0, dice.Intn(2) == 0, dice.Intn(2) == 0
		}
		if _, there := modelFind(s, f.Name); !there {
			s.Fields = append(s.Fields, f)
		}
	}
	return s
}

// someSpoilt is a good schema with a change or two, by which it may be good no more.
func someSpoilt(dice *rand.Rand) api.Schema {
	s := someGood(dice)
	for range 1 + dice.Intn(2) {
		f := &s.Fields[dice.Intn(len(s.Fields))]
		switch dice.Intn(7) {
		case 0:
			f.Kind = dice.Intn(6) - 1
		case 1:
			f.Fold = !f.Fold
		case 2:
			f.Stop = !f.Stop
		case 3:
			f.Stem = !f.Stem
		case 4:
			f.Name = s.Fields[dice.Intn(len(s.Fields))].Name
		case 5:
			b := []byte(f.Name + "x")
			b[dice.Intn(len(b))] = byte(dice.Intn(256))
			f.Name = string(b)
		case 6:
			f.Name += strings.Repeat("z", dice.Intn(33))
		}
	}
	return s
}
