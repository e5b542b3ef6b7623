package schema_test

import (
	"math/rand"
	"slices"
	"strings"
	"testing"

	"concord/api"
	"concord/schema"
)

// threeKinds is a good schema with a field of each kind: a, k and n.
func threeKinds() api.Schema {
	return schemaOf(api.Field{Name: "a", Kind: api.KindText, Fold: true}, api.Field{Name: "k", Kind: api.KindKeyword}, api.Field{Name: "n", Kind: api.KindNumber})
}

// valuesOf are values of names and texts by turns.
func valuesOf(names ...string) []api.Value {
	var list []api.Value
	for i := 0; i < len(names); i += 2 {
		list = append(list, api.Value{Name: names[i], Text: names[i+1]})
	}
	return list
}

// holdGood holds Good against the model, and sees that it changes nothing.
func holdGood(t *testing.T, s api.Schema, values []api.Value) {
	t.Helper()
	fields, before := slices.Clone(s.Fields), slices.Clone(values)
	err := schema.Good(s, values)
	if want := modelValues(s, values); err != want {
		t.Fatalf("Good(%v, %d values) = %v, want %v", s, len(values), err, want)
	}
	if !slices.Equal(fields, s.Fields) || !slices.Equal(before, values) {
		t.Fatal("Good has changed what it was given")
	}
}

// P4.5
func TestGood(t *testing.T) {
	x := func(n int) string { return strings.Repeat("x", n) }
	noughts := func(n int) string { return strings.Repeat("0", n) }
	rows := []struct {
		values []api.Value
		want   error
	}{
		{nil, nil},
		{[]api.Value{}, nil},
		// a text takes all texts
		{valuesOf("a", ""), nil},
		{valuesOf("a", "Red fox"), nil},
		{valuesOf("a", "\x00\xff"), nil},
		{valuesOf("a", x(4096)), nil},
		{valuesOf("a", x(4097)), api.ErrLimit},
		// a keyword
		{valuesOf("k", ""), api.ErrValue},
		{valuesOf("k", "x"), nil},
		{valuesOf("k", " "), nil},
		{valuesOf("k", "\x00"), nil},
		{valuesOf("k", x(64)), nil},
		{valuesOf("k", x(65)), api.ErrValue},
		{valuesOf("k", x(4096)), api.ErrValue},
		{valuesOf("k", x(4097)), api.ErrLimit},
		// a number
		{valuesOf("n", ""), api.ErrValue},
		{valuesOf("n", "-"), api.ErrValue},
		{valuesOf("n", "x"), api.ErrValue},
		{valuesOf("n", "+1"), api.ErrValue},
		{valuesOf("n", "0"), nil},
		{valuesOf("n", "-007"), nil},
		{valuesOf("n", "9223372036854775807"), nil},
		{valuesOf("n", "9223372036854775808"), api.ErrValue},
		{valuesOf("n", "-9223372036854775808"), nil},
		{valuesOf("n", "-9223372036854775809"), api.ErrValue},
		{valuesOf("n", noughts(65)), nil},
		{valuesOf("n", noughts(4095)+"1"), nil},
		{valuesOf("n", noughts(4096)+"1"), api.ErrLimit},
		{valuesOf("n", x(4097)), api.ErrLimit},
		// no field
		{valuesOf("z", ""), api.ErrField},
		{valuesOf("", ""), api.ErrField},
		{valuesOf("A", "x"), api.ErrField},
		{valuesOf("a ", "x"), api.ErrField},
		{valuesOf("z", x(5000)), api.ErrField},
		// several values, of one field or of all
		{valuesOf("a", "x", "a", "", "k", "x", "k", "x", "n", "1", "n", "1"), nil},
		{valuesOf("n", "1", "k", "x", "a", "x"), nil},
		// the first bad value's error
		{valuesOf("a", x(5000), "z", ""), api.ErrLimit},
		{valuesOf("z", "", "a", x(5000)), api.ErrField},
		{valuesOf("k", "", "z", ""), api.ErrValue},
		{valuesOf("n", "x", "a", x(5000)), api.ErrValue},
		{valuesOf("a", x(5000), "k", ""), api.ErrLimit},
		{valuesOf("z", "", "k", ""), api.ErrField},
		{valuesOf("a", "x", "k", "x", "n", "1", "n", ""), api.ErrValue},
		{valuesOf("a", "x", "k", "x", "n", "1", "b", ""), api.ErrField},
	}
	for i, row := range rows {
		if err := schema.Good(threeKinds(), row.values); err != row.want {
			t.Errorf("row %d: %v, want %v", i, err, row.want)
		}
		holdGood(t, threeKinds(), row.values)
	}
}

// P4.5: 64 values and no more; their number comes ahead of what they are.
func TestGoodNumberOfValues(t *testing.T) {
	for n := range 200 {
		many := slices.Repeat(valuesOf("k", "x"), n)
		err := schema.Good(threeKinds(), many)
		if n <= 64 && err != nil || n > 64 && err != api.ErrLimit {
			t.Errorf("Good of %d values: %v", n, err)
		}
		bad := slices.Repeat(valuesOf("z", ""), n)
		err = schema.Good(threeKinds(), bad)
		if n == 0 && err != nil || 1 <= n && n <= 64 && err != api.ErrField || n > 64 && err != api.ErrLimit {
			t.Errorf("Good of %d values of no field: %v", n, err)
		}
	}
	for at := range 64 {
		list := slices.Repeat(valuesOf("n", "1"), 64)
		list[at].Text = ""
		if err := schema.Good(threeKinds(), list); err != api.ErrValue {
			t.Errorf("Good with a bad value in the place %d: %v", at, err)
		}
	}
}

// P4.5: a schema that isn't good comes ahead of everything.
func TestGoodOfBadSchemas(t *testing.T) {
	twice := threeKinds()
	twice.Fields[2].Name = "a"
	for _, s := range []api.Schema{
		{},
		schemaOf(api.Field{Name: "a"}),
		schemaOf(api.Field{Name: "a", Kind: api.KindNumber, Fold: true}),
		schemaOf(api.Field{Name: "Z", Kind: api.KindText}),
		schemaOf(fieldsOf(17)...),
		twice,
	} {
		for _, values := range [][]api.Value{nil, valuesOf("a", "1"), valuesOf("z", ""), valuesOf("a", strings.Repeat("x", 5000)), slices.Repeat(valuesOf("a", "1"), 65)} {
			if err := schema.Good(s, values); err != api.ErrSchema {
				t.Errorf("Good(%v, %d values) = %v", s, len(values), err)
			}
			holdGood(t, s, values)
		}
	}
}

// P4.5
func TestGoodAgainstTheModel(t *testing.T) {
	dice := rand.New(rand.NewSource(49))
	texts := []string{"", "0", "-5", "x", "red fox", "9223372036854775808", strings.Repeat("7", 18), strings.Repeat("y", 64), strings.Repeat("y", 65), strings.Repeat("0", 4096), strings.Repeat("0", 4097)}
	for range 20000 {
		s := someGood(dice)
		if dice.Intn(20) == 0 {
			s = someSpoilt(dice)
		}
		var values []api.Value
		for range dice.Intn(6) {
			v := api.Value{Name: s.Fields[dice.Intn(len(s.Fields))].Name, Text: texts[dice.Intn(len(texts))]}
			if dice.Intn(10) == 0 {
				v.Name += "z"
			}
			values = append(values, v)
		}
		if dice.Intn(20) == 0 {
			values = slices.Repeat(values, 20)
		}
		holdGood(t, s, values)
	}
}
