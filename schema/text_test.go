package schema_test

import (
	"math/rand"
	"strings"
	"testing"

	"concord/api"
	"concord/schema"
)

// holdParse holds Parse against the model, and what it takes against Text.
func holdParse(t *testing.T, text string) {
	t.Helper()
	s, err := schema.Parse(text)
	want, wantErr := modelParse(text)
	if !sameSchema(s, want) || err != wantErr {
		t.Fatalf("Parse(%q) = %v, %v, want %v, %v", text, s, err, want, wantErr)
	}
	if err != nil {
		return
	}
	if again, err := schema.Text(s); again != text || err != nil {
		t.Fatalf("Parse takes %q, and Text of it is %q, %v", text, again, err)
	}
}

// P4.2
func TestTextAndParse(t *testing.T) {
	text := func(name string, fold, stop, stem bool) api.Field {
		return api.Field{Name: name, Kind: api.KindText, Fold: fold, Stop: stop, Stem: stem}
	}
	rows := []struct {
		text string
		s    api.Schema
	}{
		{"a:text", schemaOf(text("a", false, false, false))},
		{"a:text,fold", schemaOf(text("a", true, false, false))},
		{"a:text,stop", schemaOf(text("a", false, true, false))},
		{"a:text,stem", schemaOf(text("a", false, false, true))},
		{"a:text,fold,stop", schemaOf(text("a", true, true, false))},
		{"a:text,fold,stem", schemaOf(text("a", true, false, true))},
		{"a:text,stop,stem", schemaOf(text("a", false, true, true))},
		{"a:text,fold,stop,stem", schemaOf(text("a", true, true, true))},
		{"a:keyword", schemaOf(api.Field{Name: "a", Kind: api.KindKeyword})},
		{"a:number", schemaOf(api.Field{Name: "a", Kind: api.KindNumber})},
		{"title:text,fold,stem;tag:keyword;price:number", schemaOf(text("title", true, false, true), api.Field{Name: "tag", Kind: api.KindKeyword}, api.Field{Name: "price", Kind: api.KindNumber})},
		{"text:text;keyword:keyword;number:number;fold:text,fold", schemaOf(text("text", false, false, false), api.Field{Name: "keyword", Kind: api.KindKeyword}, api.Field{Name: "number", Kind: api.KindNumber}, text("fold", true, false, false))},
		{"b_9:number;a:text", schemaOf(api.Field{Name: "b_9", Kind: api.KindNumber}, text("a", false, false, false))},
	}
	for _, x := range rows {
		if got, err := schema.Text(x.s); got != x.text || err != nil {
			t.Errorf("Text(%v) = %q, %v, want %q", x.s, got, err, x.text)
		}
		if got, err := schema.Parse(x.text); !sameSchema(got, x.s) || err != nil {
			t.Errorf("Parse(%q) = %v, %v, want %v", x.text, got, err, x.s)
		}
		holdParse(t, x.text)
	}
}

// P4.2
func TestParseRefuses(t *testing.T) {
	for _, text := range []string{
		// spoilt
		"", "a", ":", ";", ",", "a:", ":text", "a:tex", "a:texts", "a:Text", "a:TEXT", "a:string", "A:text", "9:text", "_a:text", "a-b:text", "é:text",
		"a::text", "a:text:", "a:text:fold", "a;text", "a,text", "a:text,", "a:text,f", "a:text,folds", "a:text,Fold", "a:text,fold,", "a:text,,fold", "a:text.fold", "a:textfold",
		"a:text,keyword", "a:text,number", "a:fold", "a:,fold", "a:text;b", "a:text;b:", "a:text,fold;stop", "a:text,fold,b:text", "a:text,b:text", "a,b:text",
		"a:text\n", "a:text\x00", "\x00a:text", "a\x00:text", "a:text,fold\x00", "a:text;\x00",
		// the marks in another order, or doubled
		"a:text,stem,fold", "a:text,stop,fold", "a:text,stem,stop", "a:text,fold,stem,stop", "a:text,stem,stop,fold", "a:text,stop,fold,stem",
		"a:text,fold,fold", "a:text,stop,stop", "a:text,stem,stem", "a:text,fold,stop,fold", "a:text,fold,stop,stem,stem", "a:text,fold,stop,stem,fold",
		// blanks
		" ", " a:text", "a:text ", "a :text", "a: text", "a:text ,fold", "a:text, fold", "a:text,fold ", "a:text; b:text", "a:text ;b:text", "a:text;b:text ", "a:\ttext",
		// a ';' too many
		"a:text;", ";a:text", "a:text;;b:text", "a:text;b:text;", ";;", "a:text,fold;", "a:keyword;", "a:text;;",
		// no good schema
		"a:keyword,fold", "a:keyword,stop", "a:keyword,stem", "a:number,fold", "a:number,stop", "a:number,stem", "b:text;a:number,fold,stop,stem",
		"a:text;a:text", "a:text;a:number", "a:text;b:text;c:text;a:keyword", "b:text;a:text;a:text",
	} {
		if s, err := schema.Parse(text); len(s.Fields) != 0 || err != api.ErrSchema {
			t.Errorf("Parse(%q) = %v, %v", text, s, err)
		}
		holdParse(t, text)
	}
}

// P4.2: the limits, with texts that are good but for them.
func TestParseLimits(t *testing.T) {
	for n := 1; n <= 40; n++ {
		text := strings.Repeat("n", n) + ":text"
		if _, err := schema.Parse(text); (err == nil) != (n <= 32) {
			t.Errorf("Parse of a name of %d bytes: %v", n, err)
		}
		holdParse(t, text)
		var list []string
		for i := range n {
			list = append(list, string(letters[i%26])+strings.Repeat("_", i/26)+":text,fold")
		}
		text = strings.Join(list, ";")
		if _, err := schema.Parse(text); (err == nil) != (n <= 16) {
			t.Errorf("Parse of %d fields: %v", n, err)
		}
		holdParse(t, text)
		holdParse(t, text+";")
		holdParse(t, text+",stem")
		holdParse(t, text+",fold")
	}
	// Much longer than any schema's text.
	for _, text := range []string{
		strings.Repeat("a", 1<<20) + ":text",
		strings.Repeat(":", 1<<20),
		strings.Repeat(";", 1<<20),
		"a:text" + strings.Repeat(",fold", 1<<18),
		strings.Repeat("a:text;", 1<<18),
	} {
		if s, err := schema.Parse(text); len(s.Fields) != 0 || err != api.ErrSchema {
			t.Errorf("Parse of %d bytes from %q on: %v, %v", len(text), text[:8], s, err)
		}
	}
}

// P4.2: all short rows of the pieces of which texts are made.
func TestParseAllShortTexts(t *testing.T) {
	pieces := []string{"a", "b", ":", ";", ",", "text", "keyword", "number", "fold", "stop", "stem", " ", "0"}
	var row func(text string, left int)
	row = func(text string, left int) {
		holdParse(t, text)
		if left == 0 {
			return
		}
		for _, piece := range pieces {
			row(text+piece, left-1)
		}
	}
	row("", 4)
	row("a:", 3)
	row("a:text,", 4)
	row("a:text;", 3)
	row("a:text,stop", 4)
	row("a:text;b:", 3)
	row("a:keyword", 3)
}

// P4.2: good texts with one byte or piece changed, left out, put in, or cut off.
func TestParseSpoiltTexts(t *testing.T) {
	dice := rand.New(rand.NewSource(42))
	bases := []string{"a:text", "title:text,fold,stem;tag:keyword;price:number", "a:text,fold,stop,stem;b:number"}
	for range 3 {
		text, _ := modelText(someGood(dice))
		bases = append(bases, text)
	}
	for _, base := range bases {
		for at := 0; at <= len(base); at++ {
			holdParse(t, base[:at])
			holdParse(t, base[at:])
			for c := range 256 {
				holdParse(t, base[:at]+string([]byte{byte(c)})+base[at:])
				if at < len(base) {
					holdParse(t, base[:at]+string([]byte{byte(c)})+base[at+1:])
				}
			}
			for _, piece := range []string{",fold", ",stop", ",stem", ";a:text", ":text", ";;"} {
				holdParse(t, base[:at]+piece+base[at:])
			}
			for size := 1; at+size <= len(base); size++ {
				holdParse(t, base[:at]+base[at+size:])
			}
		}
	}
}

// P4.2
func TestParseOfText(t *testing.T) {
	dice := rand.New(rand.NewSource(43))
	for range 20000 {
		s := someGood(dice)
		text, err := schema.Text(s)
		if err != nil {
			t.Fatalf("Text(%v): %v", s, err)
		}
		back, err := schema.Parse(text)
		if err != nil || !sameSchema(back, s) {
			t.Fatalf("Parse(Text(%v)) = %v, %v", s, back, err)
		}
		holdParse(t, text)
	}
}

// Rule 5: no answer shares its list with another.
func TestParseSharesNothing(t *testing.T) {
	const text = "a:text,fold;b:keyword;c:number"
	one, _ := schema.Parse(text)
	two, _ := schema.Parse(text)
	one.Fields[0] = api.Field{Name: "z", Kind: 7}
	_ = append(one.Fields[:1], api.Field{Name: "y"})
	_ = append(one.Fields, api.Field{Name: "x"})
	want, _ := modelParse(text)
	if !sameSchema(two, want) {
		t.Errorf("an answer of Parse shows what was written into another: %v", two)
	}
	if three, err := schema.Parse(text); err != nil || !sameSchema(three, want) {
		t.Errorf("Parse answers what was written into an earlier answer: %v, %v", three, err)
	}
}

func FuzzParse(f *testing.F) {
	f.Add("title:text,fold,stem;tag:keyword;price:number")
	f.Add("a:text,fold,stop,stem")
	f.Add("a:text;b:text;c_9:text;a:number")
	f.Fuzz(func(t *testing.T, text string) {
		holdParse(t, text)
	})
}
