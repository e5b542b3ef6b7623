package schema_test

import (
	"fmt"
	"math"
	"math/rand"
	"slices"
	"strings"
	"testing"

	"concord/api"
	"concord/schema"
)

// holdCheck holds every call that asks whether a schema is good against the model, and sees that none changes the schema.
func holdCheck(t *testing.T, s api.Schema) {
	t.Helper()
	before := slices.Clone(s.Fields)
	want := modelCheck(s)
	if err := schema.Check(s); err != want {
		t.Fatalf("Check(%v) = %v, want %v", s, err, want)
	}
	text, err := schema.Text(s)
	if wantText, wantErr := modelText(s); text != wantText || err != wantErr {
		t.Fatalf("Text(%v) = %q, %v, want %q, %v", s, text, err, wantText, wantErr)
	}
	b, err := schema.Encode(s)
	if wantBytes, wantErr := modelEncode(s); string(b) != string(wantBytes) || err != wantErr {
		t.Fatalf("Encode(%v) = %x, %v, want %x, %v", s, b, err, wantBytes, wantErr)
	}
	if err := schema.Good(s, nil); err != want {
		t.Fatalf("Good(%v, none) = %v, want %v", s, err, want)
	}
	if !slices.Equal(before, s.Fields) {
		t.Fatalf("a call has changed %v to %v", before, s.Fields)
	}
}

// expect holds Check against a word of the table, and the model too.
func expect(t *testing.T, s api.Schema, good bool) {
	t.Helper()
	if err := schema.Check(s); (err == nil) != good || err != nil && err != api.ErrSchema {
		t.Errorf("Check(%v) = %v, good: %v", s, err, good)
	}
	holdCheck(t, s)
}

// P4.1, rule 1
func TestCheckNumberOfFields(t *testing.T) {
	expect(t, api.Schema{}, false)
	expect(t, schemaOf([]api.Field{}...), false)
	for n := range 40 {
		expect(t, schemaOf(fieldsOf(n)...), 1 <= n && n <= 16)
	}
	expect(t, schemaOf(fieldsOf(272)...), false)
	expect(t, schemaOf(fieldsOf(100000)...), false)
}

// P4.1, rule 2
func TestCheckLengthOfNames(t *testing.T) {
	for n := range 300 {
		s := schemaOf(api.Field{Name: strings.Repeat("a", n), Kind: api.KindText})
		expect(t, s, 1 <= n && n <= 32)
	}
	expect(t, schemaOf(api.Field{Name: "a" + strings.Repeat("_", 1<<16), Kind: api.KindNumber}), false)
	// The bytes are counted, not the letters.
	expect(t, schemaOf(api.Field{Name: "é", Kind: api.KindText}), false)
}

// P4.1, rule 2
func TestCheckBytesOfNames(t *testing.T) {
	for c := range 256 {
		first := strings.IndexByte(letters, byte(c)) >= 0
		behind := strings.IndexByte(behinds, byte(c)) >= 0
		one := string([]byte{byte(c)})
		expect(t, schemaOf(api.Field{Name: one, Kind: api.KindText}), first)
		expect(t, schemaOf(api.Field{Name: one + "a", Kind: api.KindKeyword}), first)
		for at := 1; at < 32; at++ {
			for _, size := range []int{at + 1, 32} {
				name := []byte(strings.Repeat("q", size))
				name[at] = byte(c)
				expect(t, schemaOf(api.Field{Name: string(name), Kind: api.KindNumber}), behind)
			}
		}
	}
}

// P4.1, rule 3
func TestCheckKinds(t *testing.T) {
	others := []int{math.MinInt, math.MaxInt, 255, 256, 257, 258, 259, 1 << 32, 1<<32 + 1, 1<<32 + 2, -255, -256 + 1}
	for kind := -10; kind <= 40; kind++ {
		others = append(others, kind)
	}
	for _, kind := range others {
		expect(t, schemaOf(api.Field{Name: "a", Kind: kind}), kind == 1 || kind == 2 || kind == 3)
	}
}

// P4.1, rule 4
func TestCheckChains(t *testing.T) {
	for kind := 0; kind <= 4; kind++ {
		for chain := range 8 {
			f := api.Field{Name: "a", Kind: kind, Fold: chain&1 != 0, Stop: chain&2 != 0, Stem: chain&4 != 0}
			expect(t, schemaOf(f), kind == 1 || chain == 0 && (kind == 2 || kind == 3))
		}
	}
}

// P4.1, rule 5
func TestCheckNamesTwice(t *testing.T) {
	for n := 2; n <= 16; n++ {
		for i := range n {
			for j := range i {
				list := fieldsOf(n)
				list[i].Name = list[j].Name
				expect(t, schemaOf(list...), false)
			}
		}
	}
	// Names that are like one another, but aren't the same.
	long := strings.Repeat("x", 31)
	for _, names := range [][]string{{"a", "b"}, {"a", "aa", "aaa"}, {"a_", "a"}, {"ab", "ba"}, {long + "a", long + "b", long}, {"a0", "a00"}} {
		var s api.Schema
		for _, name := range names {
			s.Fields = append(s.Fields, api.Field{Name: name, Kind: api.KindText})
		}
		expect(t, s, true)
	}
	// The same name is the same whatever else the fields are.
	expect(t, schemaOf(api.Field{Name: "a", Kind: api.KindText}, api.Field{Name: "a", Kind: api.KindNumber}), false)
	expect(t, schemaOf(api.Field{Name: "a", Kind: api.KindText}, api.Field{Name: "a", Kind: api.KindText, Fold: true}), false)
}

// P4.1: a lone bad field is seen wherever it stands.
func TestCheckEveryPlace(t *testing.T) {
	bad := []api.Field{
		{Name: "", Kind: api.KindText},
		{Name: "A", Kind: api.KindText},
		{Name: "a-b", Kind: api.KindText},
		{Name: strings.Repeat("a", 33), Kind: api.KindText},
		{Name: "a", Kind: 0},
		{Name: "a", Kind: 4},
		{Name: "a", Kind: api.KindKeyword, Fold: true},
		{Name: "a", Kind: api.KindNumber, Stem: true},
	}
	for n := 1; n <= 16; n++ {
		for at := range n {
			for _, f := range bad {
				list := fieldsOf(n)
				list[at] = f
				expect(t, schemaOf(list...), false)
			}
		}
	}
}

// P4.1
func TestCheckAgainstTheModel(t *testing.T) {
	dice := rand.New(rand.NewSource(41))
	good := 0
	for range 20000 {
		s := someSpoilt(dice)
		holdCheck(t, s)
		if modelGood(s) {
			good++
		}
		holdCheck(t, someGood(dice))
	}
	if good < 1000 || good > 19000 {
		t.Errorf("of the spoilt schemas %d are good: too one-sided to tell much", good)
	}
}

// P4.5
func TestFind(t *testing.T) {
	s := schemaOf(fieldsOf(16)...)
	for i, f := range s.Fields {
		if at, ok := schema.Find(s, f.Name); at != i || !ok {
			t.Errorf("Find(%q) = %d, %v", f.Name, at, ok)
		}
	}
	for _, name := range []string{"", "f", "f16", "F0", "f0 ", " f0", "f00", "f1\x00", "f0,f1"} {
		if at, ok := schema.Find(s, name); at != 0 || ok {
			t.Errorf("Find(%q) = %d, %v", name, at, ok)
		}
	}
	if at, ok := schema.Find(api.Schema{}, ""); at != 0 || ok {
		t.Errorf("Find in no fields = %d, %v", at, ok)
	}
}

// P4.5: the schema need not be good.
func TestFindInBadSchemas(t *testing.T) {
	s := schemaOf(api.Field{}, api.Field{Name: "b"}, api.Field{Name: "a", Kind: 9}, api.Field{Name: "b", Kind: 1}, api.Field{Name: ""}, api.Field{Name: "\xff;"}, api.Field{Name: "a"})
	for name, want := range map[string]int{"": 0, "b": 1, "a": 2, "\xff;": 5} {
		if at, ok := schema.Find(s, name); at != want || !ok {
			t.Errorf("Find(%q) = %d, %v, want %d", name, at, ok, want)
		}
	}
	if at, ok := schema.Find(s, "c"); at != 0 || ok {
		t.Errorf("Find(c) = %d, %v", at, ok)
	}
	many := schemaOf(fieldsOf(3000)...)
	many.Fields[2999].Name = "f7"
	for _, i := range []int{0, 7, 16, 17, 2998} {
		if at, ok := schema.Find(many, fmt.Sprintf("f%d", i)); at != i || !ok {
			t.Errorf("Find(f%d) = %d, %v", i, at, ok)
		}
	}
	dice := rand.New(rand.NewSource(45))
	for range 5000 {
		var s api.Schema
		for range dice.Intn(20) {
			s.Fields = append(s.Fields, api.Field{Name: strings.Repeat("a", dice.Intn(12)), Kind: dice.Intn(5)})
		}
		before := slices.Clone(s.Fields)
		for n := range 13 {
			name := strings.Repeat("a", n)
			at, ok := schema.Find(s, name)
			if want, wantOk := modelFind(s, name); at != want || ok != wantOk {
				t.Fatalf("Find(%v, %q) = %d, %v, want %d, %v", s, name, at, ok, want, wantOk)
			}
		}
		if !slices.Equal(before, s.Fields) {
			t.Fatal("Find has changed the schema")
		}
	}
}
