package tokens_test

import (
	"iter"
	"math/rand"
	"slices"
	"strings"
	"testing"
	"unsafe"

	"concord/api"
	"concord/schema"
	"concord/tokens"
)

// upTo are the first most that the iterator tells; it stops it there.
func upTo(seq iter.Seq[api.Token], most int) []api.Token {
	var list []api.Token
	if most == 0 {
		return list
	}
	for token := range seq {
		list = append(list, token)
		if len(list) == most {
			break
		}
	}
	return list
}

// holdOf holds Of and Each against the model, and against what the promise says of every token.
func holdOf(t *testing.T, f api.Field, text string) {
	t.Helper()
	got := tokens.Of(f, text)
	if want := modelOf(f, text); !slices.Equal(got, want) {
		t.Fatalf("%s: Of(%q) = %#v, want %#v", show(f), text, got, want)
	}
	if each := slices.Collect(tokens.Each(f, text)); !slices.Equal(each, got) {
		t.Fatalf("%s: Each(%q) goes over %#v, Of is %#v", show(f), text, each, got)
	}
	pos, at := -1, 0
	for _, x := range got {
		if x.Pos <= pos || x.Start < at || x.End < x.Start || x.End > len(text) || len(x.Text) > api.MaxTerm || x.Value != 0 {
			t.Fatalf("%s: Of(%q) has %#v", show(f), text, x)
		}
		pos, at = x.Pos, x.End
	}
}

// everyField are fields of each kind and of others, with every chain.
func everyField() []api.Field {
	var list []api.Field
	for _, kind := range []int{api.KindText, api.KindKeyword, api.KindNumber, 0, 4, -1, 9, 1 << 40} {
		for _, f := range chains("f") {
			f.Kind = kind
			list = append(list, f)
		}
	}
	return list
}

// P5.5
func TestOfTextWithEachChain(t *testing.T) {
	text := "The Cats' RUNNING of it is the cats's Über-foxes"
	for i, want := range []string{
		"The@0 Cats@1 RUNNING@2 of@3 it@4 is@5 the@6 cats's@7 Über@8 foxes@9",
		"the@0 cats@1 running@2 of@3 it@4 is@5 the@6 cats's@7 über@8 foxes@9",
		"The@0 Cats@1 RUNNING@2 cats's@7 Über@8 foxes@9",
		"cats@1 running@2 cats's@7 über@8 foxes@9",
		"The@0 Cats@1 RUNNING@2 of@3 it@4 is@5 the@6 cat@7 Über@8 fox@9",
		"the@0 cat@1 run@2 of@3 it@4 is@5 the@6 cat@7 über@8 fox@9",
		"The@0 Cats@1 RUNNING@2 cat@7 Über@8 fox@9",
		"cat@1 run@2 cat@7 über@8 fox@9",
	} {
		f := chains("t")[i]
		words := modelWords(text)
		var list []string
		for _, x := range tokens.Of(f, text) {
			list = append(list, x.Text+"@"+string(rune('0'+x.Pos)))
			if w := words[x.Pos]; x.Start != w.Start || x.End != w.End || x.Value != 0 {
				t.Errorf("%s: %v is of the word %v", show(f), x, w)
			}
		}
		if got := strings.Join(list, " "); got != want {
			t.Errorf("%s: %s, want %s", show(f), got, want)
		}
		holdOf(t, f, text)
	}
}

// P5.5: the steps are done in the order fold, stop, stem.
func TestOfOrderOfSteps(t *testing.T) {
	all := chains("t")[7]
	for text, want := range map[string]string{
		"THE":       "",    // a stop word behind folding
		"Ones":      "on",  // a stem that is a stop word stays: stops are left out ahead of stems
		"Being":     "be",  // likewise
		"it's":      "it",  // likewise
		"CATS's":    "cat", // a stem behind folding
		"\xc3\x80s": "\xc3\xa0s",
	} {
		var list []string
		for _, x := range tokens.Of(all, text) {
			list = append(list, x.Text)
		}
		if got := strings.Join(list, " "); got != want {
			t.Errorf("Of(%q) has %q, want %q", text, got, want)
		}
		holdOf(t, all, text)
	}
}

// P5.5
func TestOfOtherKinds(t *testing.T) {
	one := func(text string, end int) []api.Token { return []api.Token{{Text: text, End: end}} }
	x64, x65 := strings.Repeat("x", 64), strings.Repeat("x", 65)
	noughts := strings.Repeat("0", 5000)
	rows := []struct {
		kind int
		text string
		want []api.Token
	}{
		{api.KindKeyword, "A b, c's The", one("A b, c's The", 12)},
		{api.KindKeyword, "", one("", 0)},
		{api.KindKeyword, " ", one(" ", 1)},
		{api.KindKeyword, "\x00\xff", one("\x00\xff", 2)},
		{api.KindKeyword, x64, one(x64, 64)},
		{api.KindKeyword, x65, nil},
		{api.KindKeyword, noughts, nil},
		{api.KindNumber, "0", one("\x80\x00\x00\x00\x00\x00\x00\x00", 1)},
		{api.KindNumber, "-007", one("\x7f\xff\xff\xff\xff\xff\xff\xf9", 4)},
		{api.KindNumber, "9223372036854775807", one("\xff\xff\xff\xff\xff\xff\xff\xff", 19)},
		{api.KindNumber, "-9223372036854775808", one("\x00\x00\x00\x00\x00\x00\x00\x00", 20)},
		{api.KindNumber, "9223372036854775808", nil},
		{api.KindNumber, noughts + "1", one(schema.NumberTerm(1), 5001)},
		{api.KindNumber, "", nil},
		{api.KindNumber, "-", nil},
		{api.KindNumber, "+1", nil},
		{api.KindNumber, " 1", nil},
		{api.KindNumber, "1.5", nil},
		{api.KindNumber, "x", nil},
		{0, "a", nil},
		{4, "1", nil},
		{-1, "a", nil},
		{257, "a", nil},
	}
	for _, x := range rows {
		for _, f := range chains("f") {
			f.Kind = x.kind
			if got := tokens.Of(f, x.text); !slices.Equal(got, x.want) {
				t.Errorf("%s: Of(%q) = %#v, want %#v", show(f), x.text, got, x.want)
			}
			holdOf(t, f, x.text)
		}
	}
}

// P5.5: it is what is left of a word that may have MaxTerm bytes.
func TestOfLongWords(t *testing.T) {
	b := strings.Repeat("b", 80)
	rows := []struct {
		text              string
		plain, stem, both string // the positions of the tokens: without a chain, with stems, with fold and stems
	}{
		{b[:64] + " " + b[:65] + " c", "02", "02", "02"},
		{b[:65] + " " + b[:64], "1", "1", "1"},
		{b[:64] + "s " + b[:65] + "s", "", "0", "0"},
		{b[:64] + "'s " + b[:65] + "'s", "", "0", "0"},
		{b[:60] + "axes " + b[:60] + "ababing " + b[:61] + "ababing", "0", "01", "01"},
		{b[:64] + "S " + b[:64] + "'S", "", "", "01"},
		{strings.Repeat("\xc3\x80", 32) + " " + strings.Repeat("\xc3\x80", 32) + "x", "0", "0", "0"},
		{"a " + b + " the " + b, "02", "02", "02"},
	}
	places := func(list []api.Token) string {
		out := ""
		for _, x := range list {
			out += string(rune('0' + x.Pos))
		}
		return out
	}
	for _, x := range rows {
		for i, want := range map[int]string{0: x.plain, 4: x.stem, 5: x.both} {
			if got := places(tokens.Of(chains("t")[i], x.text)); got != want {
				t.Errorf("%s: Of(%q) has the positions %q, want %q", show(chains("t")[i]), x.text, got, want)
			}
		}
		for _, f := range chains("t") {
			holdOf(t, f, x.text)
		}
	}
}

// madeText is a text of words of many kinds.
func madeText(dice *rand.Rand, most int) string {
	pieces := []string{"the", "The", "cats", "Running", "it's", "3.14", "1", "-7", "\xc3\x80", "\xc3", "'", ".", " ", " ", ", ", "_", "x\x00y", strings.Repeat("z", 63)}
	var out strings.Builder
	for range dice.Intn(most + 1) {
		out.WriteString(pieces[dice.Intn(len(pieces))])
		if dice.Intn(2) == 0 {
			out.WriteByte(' ')
		}
	}
	return out.String()
}

// P5.5
func TestOfMadeTexts(t *testing.T) {
	dice := rand.New(rand.NewSource(55))
	for range 1500 {
		text := madeText(dice, 12)
		for _, f := range everyField() {
			holdOf(t, f, text)
		}
	}
	for _, f := range everyField() {
		holdOf(t, f, strings.Repeat("The cats' running, ", 1000))
		holdOf(t, f, "")
	}
}

// P5.5: whole, stopped at each place, gone over again.
func TestEachAnyNumberOfTimes(t *testing.T) {
	text := "The cats' running is 3.14 of it"
	for _, f := range everyField() {
		want := modelOf(f, text)
		each := tokens.Each(f, text)
		for most := range len(want) + 2 {
			if got := upTo(each, most); !slices.Equal(got, want[:min(most, len(want))]) {
				t.Errorf("%s: the first %d: %v", show(f), most, got)
			}
			if got := slices.Collect(each); !slices.Equal(got, want) {
				t.Errorf("%s: gone over again behind a stop at %d: %v", show(f), most, got)
			}
		}
	}
}

// P5.5: an iterator inside of itself, and pulled step by step beside another.
func TestEachInsideEach(t *testing.T) {
	f := chains("t")[7]
	text := "The cats' running foxes"
	want := modelOf(f, text)
	each := tokens.Each(f, text)
	next, stop := iter.Pull(each)
	defer stop()
	var outer []api.Token
	for token := range each {
		outer = append(outer, token)
		if got := slices.Collect(each); !slices.Equal(got, want) {
			t.Errorf("inside, at %v: %v", token, got)
		}
		if got, ok := next(); !ok || got != token {
			t.Errorf("pulled: %v %v, want %v", got, ok, token)
		}
	}
	if _, ok := next(); ok || !slices.Equal(outer, want) {
		t.Error("outside", outer)
	}
}

func holdField(t *testing.T, s api.Schema, field int, values []api.Value) {
	t.Helper()
	fields, before := slices.Clone(s.Fields), slices.Clone(values)
	got := tokens.Field(s, field, values)
	if want := modelField(s, field, values); !slices.Equal(got, want) {
		t.Fatalf("Field(%v, %d, %q) = %#v, want %#v", s, field, values, got, want)
	}
	if !slices.Equal(fields, s.Fields) || !slices.Equal(before, values) {
		t.Fatal("Field has changed what was handed in")
	}
	for i := 1; i < len(got); i++ {
		one, two := got[i-1], got[i]
		if two.Pos <= one.Pos || two.Value < one.Value {
			t.Fatalf("Field(%v, %d, %q): %#v stands ahead of %#v", s, field, values, one, two)
		}
		if two.Value > one.Value && two.Pos-one.Pos < api.PosGap {
			t.Fatalf("Field(%v, %d, %q): %#v and %#v are nearer than PosGap", s, field, values, one, two)
		}
	}
}

func tokenOf(text string, value, pos, start, end int) api.Token {
	return api.Token{Text: text, Value: value, Pos: pos, Start: start, End: end}
}

// valuesOf are values from pairs of a name and a text.
func valuesOf(pairs ...string) []api.Value {
	var list []api.Value
	for i := 0; i < len(pairs); i += 2 {
		list = append(list, api.Value{Name: pairs[i], Text: pairs[i+1]})
	}
	return list
}

// P5.6
func TestFieldRows(t *testing.T) {
	full := chains("full")[7]
	s := api.Schema{Fields: []api.Field{{Name: "t", Kind: 1}, {Name: "k", Kind: 2}, {Name: "n", Kind: 3}, full, {Name: "odd", Kind: 7}}}
	x65 := strings.Repeat("x", 65)
	rows := []struct {
		field  int
		values []api.Value
		want   []api.Token
	}{
		{0, nil, nil},
		{0, valuesOf("u", "a", "k", "b"), nil},
		{0, valuesOf("T", "a", "", "b", "tt", "c"), nil},
		{0, valuesOf("t", "a b", "u", "x", "t", "c"), []api.Token{tokenOf("a", 0, 0, 0, 1), tokenOf("b", 0, 1, 2, 3), tokenOf("c", 2, 18, 0, 1)}},
		{0, valuesOf("k", "z", "t", "a"), []api.Token{tokenOf("a", 1, 0, 0, 1)}},
		// values without a word, and with words that give no token
		{0, valuesOf("t", "", "t", "a"), []api.Token{tokenOf("a", 1, 16, 0, 1)}},
		{0, valuesOf("t", "", "t", " ", "t", "'", "t", "a"), []api.Token{tokenOf("a", 3, 48, 0, 1)}},
		{0, valuesOf("t", x65+" "+x65, "t", "a"), []api.Token{tokenOf("a", 1, 18, 0, 1)}},
		{0, valuesOf("t", "a "+x65, "t", x65+" b", "t", "c"), []api.Token{tokenOf("a", 0, 0, 0, 1), tokenOf("b", 1, 19, 66, 67), tokenOf("c", 2, 36, 0, 1)}},
		{3, valuesOf("full", "The", "full", "of it", "full", " Cats the"), []api.Token{tokenOf("cat", 2, 35, 1, 5)}},
		{3, valuesOf("full", "Cats the", "full", "The cats"), []api.Token{tokenOf("cat", 0, 0, 0, 4), tokenOf("cat", 1, 19, 4, 8)}},
		// other kinds count for one word, whether they give a token or not
		{1, valuesOf("k", "a b c", "t", "d", "k", "e"), []api.Token{tokenOf("a b c", 0, 0, 0, 5), tokenOf("e", 2, 17, 0, 1)}},
		{1, valuesOf("k", x65, "k", x65, "k", "", "k", "e"), []api.Token{tokenOf("", 2, 34, 0, 0), tokenOf("e", 3, 51, 0, 1)}},
		{2, valuesOf("n", "x y z", "n", "-1", "n", "", "n", "2"), []api.Token{tokenOf(schema.NumberTerm(-1), 1, 17, 0, 2), tokenOf(schema.NumberTerm(2), 3, 51, 0, 1)}},
		{4, valuesOf("odd", "a", "odd", "b"), nil},
		// no field of this number
		{5, valuesOf("t", "a", "", "b"), nil},
		{-1, valuesOf("t", "a", "", "b"), nil},
		{1 << 40, valuesOf("t", "a", "", "b"), nil},
		{-1 << 63, valuesOf("t", "a", "", "b"), nil},
	}
	for _, x := range rows {
		if got := tokens.Field(s, x.field, x.values); !slices.Equal(got, x.want) {
			t.Errorf("Field %d of %q = %#v, want %#v", x.field, x.values, got, x.want)
		}
		holdField(t, s, x.field, x.values)
	}
}

// P5.6: schemas that are no good ones.
func TestFieldOfOddSchemas(t *testing.T) {
	if got := tokens.Field(api.Schema{}, 0, valuesOf("", "a", "t", "b")); len(got) != 0 {
		t.Errorf("a schema without fields: %v", got)
	}
	s := api.Schema{Fields: []api.Field{{Name: "", Kind: 1}, {Name: "a", Kind: 1}, {Name: "a", Kind: 2, Stem: true}, {Name: "A b", Kind: 3}}}
	for i := range 20 {
		s.Fields = append(s.Fields, api.Field{Name: "a", Kind: i - 3, Fold: true})
	}
	values := valuesOf("", "x y", "a", "x Y", "A b", "1", "a", "z", "", "w")
	for field := -2; field < len(s.Fields)+2; field++ {
		holdField(t, s, field, values)
	}
	if got := tokens.Field(s, 2, values); !slices.Equal(got, []api.Token{tokenOf("x Y", 1, 0, 0, 3), tokenOf("z", 3, 17, 0, 1)}) {
		t.Errorf("the second field of its name: %v", got)
	}
}

// P5.6
func TestFieldOfMadeDocuments(t *testing.T) {
	dice := rand.New(rand.NewSource(56))
	names := []string{"t", "k", "n", "full", "other", ""}
	for range 3000 {
		var s api.Schema
		for range dice.Intn(5) {
			f := chains(names[dice.Intn(len(names))])[dice.Intn(8)]
			f.Kind = dice.Intn(5)
			s.Fields = append(s.Fields, f)
		}
		var values []api.Value
		for range dice.Intn(8) {
			values = append(values, api.Value{Name: names[dice.Intn(len(names))], Text: madeText(dice, 5)})
		}
		for field := -1; field <= len(s.Fields); field++ {
			holdField(t, s, field, values)
		}
	}
	many := slices.Repeat(valuesOf("t", "a b", "u", "c"), 5000)
	holdField(t, api.Schema{Fields: []api.Field{{Name: "t", Kind: 1}}}, 0, many)
}

// P5.1, P5.2, P5.4 to P5.6: no answer shares memory with what was handed in, so that nothing written there later is seen; a text of the bytes themselves shows it.
func TestAnswersShareNothing(t *testing.T) {
	text := "The cats' x of"
	b := []byte(text)
	lent := unsafe.String(&b[0], len(b))
	plain, all := chains("t")[0], chains("t")[7]
	keyword := api.Field{Name: "t", Kind: api.KindKeyword}
	words, each := tokens.Words(lent), tokens.Each(all, lent)
	of, ofAll, ofKeyword := tokens.Of(plain, lent), tokens.Of(all, lent), tokens.Of(keyword, lent)
	field := tokens.Field(api.Schema{Fields: []api.Field{plain}}, 0, []api.Value{{Name: "t", Text: lent}})
	eachKeyword := tokens.Each(keyword, lent)
	fold, foldSmall := tokens.Fold(lent), tokens.Fold(lent[4:8])
	stem, short, possessive := tokens.Stem(lent[4:8]), tokens.Stem(lent[12:]), tokens.Stem(lent)
	for i := range b {
		b[i] = '#'
	}
	for name, lists := range map[string][2][]api.Token{
		"Words":           {words, modelWords(text)},
		"Of":              {of, modelOf(plain, text)},
		"Of, a chain":     {ofAll, modelOf(all, text)},
		"Of, a keyword":   {ofKeyword, modelOf(keyword, text)},
		"Each":            {slices.Collect(each), modelOf(all, text)},
		"Each, a keyword": {slices.Collect(eachKeyword), modelOf(keyword, text)},
		"Field":           {field, modelOf(plain, text)},
	} {
		if !slices.Equal(lists[0], lists[1]) {
			t.Errorf("%s shows what was written later: %v", name, lists[0])
		}
	}
	if fold != "the cats' x of" || foldSmall != "cats" || stem != "cat" || short != "of" || possessive != text {
		t.Errorf("Fold and Stem show what was written later: %q %q %q %q %q", fold, foldSmall, stem, short, possessive)
	}
}

// P5.5, P5.6: what is written into an answer isn't seen in another.
func TestAnswersOfTheirOwn(t *testing.T) {
	f := chains("t")[5]
	text := "Red foxes running"
	s, values := api.Schema{Fields: []api.Field{f}}, valuesOf("t", text)
	want := modelOf(f, text)
	each := tokens.Each(f, text)
	for _, list := range [][]api.Token{tokens.Of(f, text), tokens.Words(text), tokens.Field(s, 0, values), slices.Collect(each)} {
		for i := range list {
			list[i] = api.Token{Text: "x", Pos: 9}
		}
		_ = append(list[:1], api.Token{Text: "y"})
		_ = append(list, api.Token{Text: "z"})
	}
	for name, list := range map[string][]api.Token{"Of": tokens.Of(f, text), "Field": tokens.Field(s, 0, values), "Each": slices.Collect(each)} {
		if !slices.Equal(list, want) {
			t.Errorf("%s: %v, want %v", name, list, want)
		}
	}
}

func FuzzOf(f *testing.F) {
	f.Add("The cats' running", byte(29))
	f.Add("-007", byte(3))
	f.Add(strings.Repeat("x", 65)+" y", byte(1))
	f.Fuzz(func(t *testing.T, text string, b byte) {
		// The model asks for each y the letter ahead of it anew.
		if len(text) > 500 {
			return
		}
		holdOf(t, api.Field{Name: "t", Kind: int(b & 3), Fold: b&4 != 0, Stop: b&8 != 0, Stem: b&16 != 0}, text)
	})
}
