package bind_test

import (
	"math/rand"
	"strconv"
	"strings"
	"testing"

	"concord/api"
	"concord/bind"
	"concord/lexer"
	"concord/printer"
	"concord/schema"
	"concord/syntax"
)

// wantBound says what query texts are bound to.
func wantBound(t *testing.T, schemaText string, rows map[string]string) {
	t.Helper()
	s := mustParse(t, schemaText)
	for q, want := range rows {
		if got := bind.Text(mustBind(t, s, treeOf(t, q))); got != want {
			t.Errorf("%s is bound to %s, want %s", q, got, want)
		}
	}
}

// P16.1: the examples of the chapter.
func TestExamples(t *testing.T) {
	wantBound(t, "title:text,fold,stop,stem;tag:keyword;price:number", map[string]string{
		`Cats`: `(term 0 "cat" 0)`, `"The cats running"~2`: `(phrase 0 2 0 "cat"@0 "run"@1)`, `the`: `none`, `the OR cat^3`: `(list 0 (boost 3 (term 0 "cat" 0)))`,
		`tag:Red`: `(term 1 "Red" 0)`, `tag:""`: `none`, `price:\-007`: `(term 2 "\7f\ff\ff\ff\ff\ff\ff\f9" 0)`, `price:x`: `none`, `nosuch:x`: `none`,
		`Ca*`: `(prefix 0 "ca")`, `tag:R*`: `(prefix 1 "R")`, `price:1*`: `none`, `C?t\*`: `(wild 0 "c?t\5c*")`,
		`price:[1 TO *]`: `(span 2 ="\80\00\00\00\00\00\00\01" *)`, `title:{A TO b}`: `(span 0 !"a" !"b")`,
		`+the -dog`: `(list 0 -(term 0 "dog" 0))`, `(the cat)@2`: `(list 2 (term 0 "cat" 0))`,
		`+the +cat`: `(list 0 +(term 0 "cat" 0))`, `NOT the`: `none`, `cat -the`: `(list 0 (term 0 "cat" 0))`, `the -dog`: `(list 0 -(term 0 "dog" 0))`,
	})
	if _, _, err := syntax.Parse("price:-007"); err != api.ErrSyntax {
		t.Errorf("Parse: %v", err)
	}
}

// badSchemas are schemas that aren't good.
func badSchemas() []api.Schema {
	text := func(names ...string) api.Schema {
		var s api.Schema
		for _, name := range names {
			s.Fields = append(s.Fields, api.Field{Name: name, Kind: api.KindText})
		}
		return s
	}
	var many api.Schema
	for i := range api.MaxFields + 1 {
		many.Fields = append(many.Fields, api.Field{Name: "f" + strconv.Itoa(i), Kind: api.KindText})
	}
	return []api.Schema{
		{}, {Fields: []api.Field{}}, text(""), text("A"), text("a", "b", "a"), text("a", "b-"), text(strings.Repeat("a", api.MaxName+1)), many,
		{Fields: []api.Field{{Name: "a"}}}, {Fields: []api.Field{{Name: "a", Kind: 4}}}, {Fields: []api.Field{{Name: "a", Kind: api.KindKeyword, Fold: true}}}, {Fields: []api.Field{{Name: "a", Kind: api.KindNumber, Stem: true}}},
	}
}

// badTrees are trees that aren't good.
func badTrees() []api.Node {
	a, empty := api.Node{Kind: api.NTerm, Text: "a"}, api.Node{Kind: api.NTerm}
	return []api.Node{
		{}, {Kind: -1}, {Kind: api.NConst + 1}, {Kind: 1 << 40}, empty, {Kind: api.NTerm, Text: "a", N: 1}, {Kind: api.NPhrase, N: -1}, {Kind: api.NPrefix}, {Kind: api.NWild, Text: "a*"}, {Kind: api.NWild, Text: `\a?`}, {Kind: api.NWild, Text: `?\`}, {Kind: api.NFuzzy, Text: "a", N: 3}, {Kind: api.NFuzzy, Text: "a"},
		{Kind: api.NSpan, Lo: api.Bound{Open: true, In: true}}, {Kind: api.NHas, Text: "a"}, {Kind: api.NAll, Field: "t0"}, node(api.NList, 0, "", a), node(api.NList, 0, " "), {Kind: api.NList, Kids: []api.Node{a}, Occur: []int{3}}, node(api.NList, api.MaxNumber+1, " ", a),
		node(api.NAnd, 0, ""), node(api.NOr, 0, ""), node(api.NMax, 0, ""), node(api.NNot, 0, ""), node(api.NNot, 0, "", a, a), node(api.NBoost, -1, "", a), node(api.NConst, 1, "", a, a),
		node(api.NOr, 0, "", a, node(api.NNot, 0, "", node(api.NList, 2, "+ ", a, empty))), node(api.NNot, 1, "", a), node(api.NMax, 1, "", a),
	}
}

// P16.1: a schema that isn't good, a tree that isn't good, and both at once.
func TestErrors(t *testing.T) {
	good := mustParse(t, wholeText)
	refused := func(s api.Schema, n api.Node, want error) {
		t.Helper()
		if q, err := bind.Bind(s, n); err != want || !alike(q, api.Query{}) {
			t.Errorf("Bind(%v, %v) is %v, %v, want %v", s, n, q, err, want)
		}
	}
	for _, s := range badSchemas() {
		for _, q := range []string{"a", "*:*", "the", "nosuch:a", "a AND NOT b^2"} {
			refused(s, treeOf(t, q), api.ErrSchema)
		}
		for _, n := range badTrees() {
			refused(s, n, api.ErrSchema)
		}
	}
	for _, n := range badTrees() {
		refused(good, n, api.ErrNode)
		refused(mustParse(t, "a:keyword"), n, api.ErrNode)
	}
}

// vanishes is the outcome of a node that vanishes.
const vanishes = "-"

// outcome is the text of a node's query, beside another node, so that it shows whether it vanishes.
func outcome(t *testing.T, s api.Schema, n api.Node) string {
	t.Helper()
	alone := bind.Text(mustBind(t, s, n))
	both := mustBind(t, s, node(api.NOr, 0, "", n, api.Node{Kind: api.NAll}))
	if len(both.Kids) == 1 {
		if alone != "none" {
			t.Errorf("a tree that vanishes is bound to %s", alone)
		}
		return vanishes
	}
	if got := bind.Text(both.Kids[0]); got != alone {
		t.Errorf("alone it is bound to %s, beside another one to %s", alone, got)
	}
	return alone
}

// leafRow is a leaf, and what it is bound to in each of the fields of wholeText: X in the form is one of the texts.
type leafRow struct {
	leaf, form, texts string
}

// leafRows are leaves of every kind. The fields are: no chain, fold, stop, stem, fold stop, fold stem, stop stem, all three; keyword, number.
var leafRows = []leafRow{
	{`Cats`, `(term F "X" 0)`, `Cats/cats/Cats/Cats/cats/cat/Cats/cat/Cats/none`},
	{`cats`, `(term F "X" 0)`, `cats/cats/cats/cat/cats/cat/cat/cat/cats/none`},
	{`The`, `(term F "X" 0)`, `The/the/The/The/-/the/The/-/The/none`},
	{`the`, `(term F "X" 0)`, `the/the/-/the/-/the/-/-/the/none`},
	{`Ё.`, `(term F "X" 0)`, `\d0\81/\d0\81/\d0\81/\d0\81/\d0\81/\d0\81/\d0\81/\d0\81/\d0\81./none`},
	{`É`, `(term F "X" 0)`, `\c3\89/\c3\a9/\c3\89/\c3\89/\c3\a9/\c3\a9/\c3\89/\c3\a9/\c3\89/none`},
	{`...`, `(term F "X" 0)`, `-/-/-/-/-/-/-/-/.../none`},
	{`"Cats"~3`, `(term F "X" 0)`, `Cats/cats/Cats/Cats/cats/cat/Cats/cat/Cats/none`},
	{`"the"~3`, `(term F "X" 0)`, `the/the/-/the/-/the/-/-/the/none`},
	{`""`, `(term F "X" 0)`, `-/-/-/-/-/-/-/-/none/none`},
	{`""~7`, `(term F "X" 0)`, `-/-/-/-/-/-/-/-/none/none`},
	{`"Cats the Running"~3`, `(X)`, `phrase F 3 0 "Cats"@0 "the"@1 "Running"@2/phrase F 3 0 "cats"@0 "the"@1 "running"@2/phrase F 3 0 "Cats"@0 "Running"@2/phrase F 3 0 "Cats"@0 "the"@1 "Running"@2/phrase F 3 0 "cats"@0 "running"@2/phrase F 3 0 "cat"@0 "the"@1 "run"@2/phrase F 3 0 "Cats"@0 "Running"@2/phrase F 3 0 "cat"@0 "run"@2/term F "Cats the Running" 0/none`},
	{`cats\ the`, `(X)`, `phrase F 0 0 "cats"@0 "the"@1/phrase F 0 0 "cats"@0 "the"@1/term F "cats" 0/phrase F 0 0 "cat"@0 "the"@1/term F "cats" 0/phrase F 0 0 "cat"@0 "the"@1/term F "cat" 0/term F "cat" 0/term F "cats the" 0/none`},
	{`7`, `(term F "X" 0)`, `7/7/7/7/7/7/7/7/7/\80\00\00\00\00\00\00\07`},
	{`"-007"`, `(term F "X" 0)`, `007/007/007/007/007/007/007/007/-007/\7f\ff\ff\ff\ff\ff\ff\f9`},
	{`Cats*`, `(prefix F "X")`, `Cats/cats/Cats/Cats/cats/cats/Cats/cats/Cats/none`},
	{`the*`, `(prefix F "X")`, `the/the/the/the/the/the/the/the/the/none`},
	{`7*`, `(prefix F "X")`, `7/7/7/7/7/7/7/7/7/none`},
	{`C?TS`, `(wild F "X")`, `C?TS/c?ts/C?TS/C?TS/c?ts/c?ts/C?TS/c?ts/C?TS/none`},
	{`7?`, `(wild F "X")`, `7?/7?/7?/7?/7?/7?/7?/7?/7?/none`},
	{`Cats~1`, `(fuzzy F 1 "X")`, `Cats/cats/Cats/Cats/cats/cats/Cats/cats/Cats/none`},
	{`The~`, `(fuzzy F 2 "X")`, `The/the/The/The/the/the/The/the/The/none`},
	{`7~`, `(fuzzy F 2 "X")`, `7/7/7/7/7/7/7/7/7/none`},
	{`[Cats TO the}`, `(span F ="X" !"the")`, `Cats/cats/Cats/Cats/cats/cats/Cats/cats/Cats/none`},
	{`{* TO Cats]`, `(span F * ="X")`, `Cats/cats/Cats/Cats/cats/cats/Cats/cats/Cats/none`},
	{`{7 TO *]`, `(span F !"X" *)`, `7/7/7/7/7/7/7/7/7/\80\00\00\00\00\00\00\07`},
	{`[* TO *]`, `(X)`, strings.Repeat("span F * */", 9) + "span F * *"},
	{`*`, `(X)`, strings.Repeat("has F/", 9) + "has F"},
	{strings.Repeat("x", 64), `(term F "X" 0)`, strings.Repeat(strings.Repeat("x", 64)+"/", 9) + "none"},
	{strings.Repeat("x", 65), `(term F "X" 0)`, strings.Repeat("-/", 8) + "none/none"},
	{strings.Repeat("x", 65) + "*", `(prefix F "X")`, strings.Repeat(strings.Repeat("x", 65)+"/", 9) + "none"},
}

// wants are what a row's leaf is bound to, by the field's number, F being left as it is.
func (r leafRow) wants() []string {
	out := strings.Split(r.texts, "/")
	for i, text := range out {
		if text != vanishes && text != "none" {
			out[i] = strings.Replace(r.form, "X", text, 1)
		}
	}
	return out
}

// P16.1: every kind of leaf over every kind of field, with all chains, named and as the first field.
func TestLeavesOverFields(t *testing.T) {
	s := mustParse(t, wholeText)
	kinds := map[int]bool{}
	for _, row := range leafRows {
		leaf := treeOf(t, row.leaf)
		kinds[leaf.Kind] = true
		wants := row.wants()
		if len(wants) != len(s.Fields) {
			t.Fatalf("%s has %d outcomes", row.leaf, len(wants))
		}
		for i, f := range s.Fields {
			leaf.Field = f.Name
			if got, want := outcome(t, s, leaf), strings.Replace(wants[i], "F", strconv.Itoa(i), 1); got != want {
				t.Errorf("%s in %v is bound to %s, want %s", row.leaf, f, got, want)
			}
			first := api.Schema{Fields: append([]api.Field{f}, s.Fields[:i]...)}
			leaf.Field = ""
			if got, want := outcome(t, first, leaf), strings.Replace(wants[i], "F", "0", 1); got != want {
				t.Errorf("%s in the first field %v is bound to %s, want %s", row.leaf, f, got, want)
			}
		}
	}
	if len(kinds) != 7 {
		t.Errorf("the leaves are of %d kinds", len(kinds))
	}
}

// P16.1: a leaf in a field of no such name matches nothing, and doesn't vanish.
func TestNoSuchField(t *testing.T) {
	s := mustParse(t, wholeText)
	for _, row := range leafRows {
		leaf := treeOf(t, row.leaf)
		for _, name := range []string{"nosuch", "t", "t00", "T0", " t0", "t0 ", "k\x00", "*", "0", strings.Repeat("t", 100)} {
			leaf.Field = name
			if got := outcome(t, s, leaf); got != "none" {
				t.Errorf("%s in a field %q is bound to %s", row.leaf, name, got)
			}
		}
	}
}

// P16.1: terms and phrases of no token, of one and of several, stop words ahead, between and behind.
func TestWords(t *testing.T) {
	long := strings.Repeat("y", api.MaxTerm)
	rows := map[string]string{
		`the`: vanishes, `""`: vanishes, `"the of"`: vanishes, `" . "`: vanishes, `"the"~9`: vanishes, long + "y": vanishes, `"the ` + long + `y of"`: vanishes,
		`cat`: `(term 0 "cat" 0)`, `"cat"`: `(term 0 "cat" 0)`, `"cat"~9`: `(term 0 "cat" 0)`, `"the cat"~9`: `(term 0 "cat" 0)`, `"cat the"`: `(term 0 "cat" 0)`, `"the of cat the of"~1`: `(term 0 "cat" 0)`, `the\ cat`: `(term 0 "cat" 0)`, long: `(term 0 "` + long + `" 0)`,
		`"cat dog"`: `(phrase 0 0 0 "cat"@0 "dog"@1)`, `cat\ dog`: `(phrase 0 0 0 "cat"@0 "dog"@1)`, `cat-dog`: `(phrase 0 0 0 "cat"@0 "dog"@1)`, `"the cat dog"`: `(phrase 0 0 0 "cat"@0 "dog"@1)`, `"cat the dog"~1`: `(phrase 0 1 0 "cat"@0 "dog"@2)`, `"cat dog the"`: `(phrase 0 0 0 "cat"@0 "dog"@1)`,
		`"of the cat is of the dog it the"~999999999`: `(phrase 0 999999999 0 "cat"@0 "dog"@4)`, `"cat cat"`: `(phrase 0 0 0 "cat"@0 "cat"@1)`, `"the cat the dog the cat the"~5`: `(phrase 0 5 0 "cat"@0 "dog"@2 "cat"@4)`, `"cat ` + long + `y dog"`: `(phrase 0 0 0 "cat"@0 "dog"@2)`, `"a b c"`: `(phrase 0 0 0 "b"@0 "c"@1)`,
		`"it's 3.14"`: `(phrase 0 0 0 "it's"@0 "3.14"@1)`, `"cat  ,.; dog"`: `(phrase 0 0 0 "cat"@0 "dog"@1)`,
	}
	s := mustParse(t, "title:text,fold,stop")
	for q, want := range rows {
		if got := outcome(t, s, treeOf(t, q)); got != want {
			t.Errorf("%s is bound to %s, want %s", q, got, want)
		}
	}
	// Several words of an NTerm have no slop, and a phrase of many words has them all.
	many := strings.Repeat("cat the ", 1000)
	q := mustBind(t, s, api.Node{Kind: api.NPhrase, Text: many, N: 2})
	if len(q.Terms) != 1000 || q.Offs[0] != 0 || q.Offs[999] != 1998 || q.N != 2 {
		t.Errorf("it is bound to %s", brief(q))
	}
	if q = mustBind(t, s, api.Node{Kind: api.NTerm, Text: many}); len(q.Terms) != 1000 || q.N != 0 {
		t.Errorf("it is bound to %s", brief(q))
	}
}

// P16.1: keywords of 0 bytes, of MaxTerm, of one more; what stands in them stays as it is.
func TestKeywords(t *testing.T) {
	s := mustParse(t, "k:keyword")
	for text, want := range map[string]string{
		"": "none", "a": `(term 0 "a" 0)`, "The Cats": `(term 0 "The Cats" 0)`, " ": `(term 0 " " 0)`, "\x00": `(term 0 "\00" 0)`, "É": `(term 0 "\c3\89" 0)`,
		strings.Repeat("k", api.MaxTerm-1): `(term 0 "` + strings.Repeat("k", api.MaxTerm-1) + `" 0)`, strings.Repeat("k", api.MaxTerm): `(term 0 "` + strings.Repeat("k", api.MaxTerm) + `" 0)`, strings.Repeat("k", api.MaxTerm+1): "none", strings.Repeat(" ", 5000): "none", strings.Repeat("é", api.MaxTerm/2+1): "none",
	} {
		for _, n := range []api.Node{{Kind: api.NPhrase, Text: text, N: 3}, {Kind: api.NTerm, Text: text}} {
			if n.Kind == api.NTerm && text == "" {
				continue
			}
			if got := outcome(t, s, n); got != want {
				t.Errorf("the keyword %q is bound to %s, want %s", text, got, want)
			}
		}
	}
}

// numberTexts are texts and the numbers that they are; nil for those that are none.
func numberTexts() map[string]*int64 {
	at := func(v int64) *int64 { return &v }
	return map[string]*int64{
		"0": at(0), "-0": at(0), "00": at(0), "1": at(1), "-1": at(-1), "007": at(7), "-007": at(-7), "9223372036854775807": at(1<<63 - 1), "-9223372036854775808": at(-1 << 63), "9223372036854775806": at(1<<63 - 2), strings.Repeat("0", 100) + "42": at(42), "-" + strings.Repeat("0", 100) + "42": at(-42),
		"9223372036854775808": nil, "-9223372036854775809": nil, "99999999999999999999999": nil, "+1": nil, "--1": nil, "-": nil, "1 ": nil, " 1": nil, "1.0": nil, "1e3": nil, "0x1": nil, "1_000": nil, "x": nil, "1-": nil, "": nil, "\xd9\xa1": nil, "1\n": nil, "1\x00": nil,
	}
}

// P16.1: numbers at both ends of their range, with noughts ahead, with a sign, and what is no number.
func TestNumbers(t *testing.T) {
	s := mustParse(t, "n:number")
	for text, number := range numberTexts() {
		want, lo, hi := none, none, none
		if number != nil {
			end := schema.NumberTerm(*number)
			want, lo, hi = term(0, end, 0), span(0, within(end), open()), span(0, open(), without(end))
		}
		rows := map[string]api.Query{`"` + text + `"~4`: want, `["` + text + `" TO *]`: lo, `[* TO "` + text + `"}`: hi, `["1" TO "` + text + `x"]`: none, `{x TO "` + text + `"]`: none}
		if text != "" {
			rows[lexer.Word(text)] = want
		}
		for q, want := range rows {
			if got := outcome(t, s, treeOf(t, q)); got != bind.Text(want) {
				t.Errorf("%s is bound to %s, want %s", q, got, bind.Text(want))
			}
		}
	}
}

// P16.1: patterns, with escapes, gaps and stars between runs of letters that are folded, or not.
func TestPatterns(t *testing.T) {
	s := mustParse(t, "f:text,fold;p:text,stop,stem;k:keyword")
	for pattern, folded := range map[string]string{
		"?": "?", "A?": "a?", "?A": "?a", "AB*CD?EF": "ab*cd?ef", "**": "**", "*Z*": "*z*", `A\*B?`: `a\*b?`, `\*?\?*\\A`: `\*?\?*\\a`, `?\\A`: `?\\a`, `\\\**Q`: `\\\**q`, "É?": "é?", "?ÀÞ": "?àþ", "×?÷": "×?÷", "ABC DEF?": "abc def?", "?The*": "?the*", "?RUNNING": "?running",
		// Two bytes that are one capital are so without a star or a gap between them alone.
		"\xc3?\x89": "\xc3?\x89", "\xc3*\x89": "\xc3*\x89", "?\xc3\x89": "?\xc3\xa9", "?\xc3\\*\x89": "?\xc3\\*\x89", "?\xc3\\\\\x89": "?\xc3\\\\\x89", "\xc3\x97?": "\xc3\x97?", "\xc3\x9e*\x9e?": "\xc3\xbe*\x9e?", "\xc3\xc3\x80?": "\xc3\xc3\xa0?",
	} {
		n := api.Node{Kind: api.NWild, Text: pattern}
		for field, want := range map[string]api.Query{"": wild(0, folded), "f": wild(0, folded), "p": wild(1, pattern), "k": wild(2, pattern), "nosuch": none} {
			n.Field = field
			if got := outcome(t, s, n); got != bind.Text(want) {
				t.Errorf("%q in %q is bound to %s, want %s", pattern, field, got, bind.Text(want))
			}
		}
	}
	// All short patterns.
	var grow func(text string, more int)
	grow = func(text string, more int) {
		if n := (api.Node{Kind: api.NWild, Text: text}); printer.Check(n) == nil {
			mustBind(t, s, n)
		}
		for _, c := range []string{"A", "*", "?", `\`, "\xc3", "\x80"} {
			if more > 0 {
				grow(text+c, more-1)
			}
		}
	}
	grow("", 6)
}

// P16.1: spans with open ends, with ends out of order and with ends that are no number, over each kind of field.
func TestSpans(t *testing.T) {
	wantBound(t, "f:text,fold,stop,stem;p:text;k:keyword;n:number", map[string]string{
		`[* TO *]`: `(span 0 * *)`, `{* TO *}`: `(span 0 * *)`, `[* TO B]`: `(span 0 * ="b")`, `[B TO *]`: `(span 0 ="b" *)`, `{B TO *]`: `(span 0 !"b" *)`, `[A TO B]`: `(span 0 ="a" ="b")`, `{A TO B]`: `(span 0 !"a" ="b")`, `[A TO B}`: `(span 0 ="a" !"b")`, `{A TO B}`: `(span 0 !"a" !"b")`, `[Z TO A]`: `(span 0 ="z" ="a")`, `["" TO ""}`: `(span 0 ="" !"")`, `[the TO Running]`: `(span 0 ="the" ="running")`, `["É A" TO \*]`: `(span 0 ="\c3\a9 a" ="*")`,
		`p:[* TO *]`: `(span 1 * *)`, `p:{Z TO A]`: `(span 1 !"Z" ="A")`, `p:["" TO B]`: `(span 1 ="" ="B")`, `p:[* TO É}`: `(span 1 * !"\c3\89")`,
		`k:[* TO *]`: `(span 2 * *)`, `k:{Z TO A]`: `(span 2 !"Z" ="A")`, `k:["" TO B]`: `(span 2 ="" ="B")`, `k:[` + strings.Repeat("k", 70) + ` TO *]`: `(span 2 ="` + strings.Repeat("k", 70) + `" *)`,
		`n:[* TO *]`: `(span 3 * *)`, `n:[1 TO 2}`: `(span 3 ="\80\00\00\00\00\00\00\01" !"\80\00\00\00\00\00\00\02")`, `n:{2 TO 1]`: `(span 3 !"\80\00\00\00\00\00\00\02" ="\80\00\00\00\00\00\00\01")`, `n:[* TO 00}`: `(span 3 * !"\80\00\00\00\00\00\00\00")`, `n:[\-9223372036854775808 TO 9223372036854775807]`: `(span 3 ="\00\00\00\00\00\00\00\00" ="\ff\ff\ff\ff\ff\ff\ff\ff")`,
		`n:[x TO *]`: `none`, `n:[* TO x]`: `none`, `n:[x TO 1]`: `none`, `n:[1 TO x]`: `none`, `n:[x TO y]`: `none`, `n:["" TO *]`: `none`, `n:[* TO ""]`: `none`, `n:[1 TO 9223372036854775808]`: `none`, `n:[\* TO *]`: `none`,
		`nosuch:[* TO *]`: `none`, `nosuch:[a TO b]`: `none`,
	})
}

// P16.1: nodes of which no kid vanishes, one, some and all; the whole tree; N stays as it is.
func TestVanishing(t *testing.T) {
	rows := map[string]string{
		`x y`: `(list 0 X Y)`, `the y`: `(list 0 Y)`, `x the`: `(list 0 X)`, `the of`: vanishes, `the x of y in`: `(list 0 X Y)`, `+x -y z`: `(list 0 +X -Y Z)`, `+the -y z`: `(list 0 -Y Z)`, `+x -the z`: `(list 0 +X Z)`, `+x -y the`: `(list 0 +X -Y)`, `+the -y the`: `(list 0 -Y)`, `+the -of in`: vanishes, `+the`: vanishes, `-the`: vanishes, `+x`: `(list 0 +X)`, `-x`: `(list 0 -X)`, `-x -the -y`: `(list 0 -X -Y)`,
		`(x y)@2`: `(list 2 X Y)`, `(x the)@2`: `(list 2 X)`, `(the of)@2`: vanishes, `(x)@1`: `(list 1 X)`, `(the x)@999999999`: `(list 999999999 X)`, `(+the -x of)@7`: `(list 7 -X)`, `(the)@1`: vanishes, `((the))@3`: vanishes, `((the x))@3`: `(list 3 (list 0 X))`,
		`x AND y`: `(list 0 +X +Y)`, `the AND y`: `(list 0 +Y)`, `x AND the`: `(list 0 +X)`, `the AND of`: vanishes, `the AND x AND of AND y AND z`: `(list 0 +X +Y +Z)`,
		`x OR y`: `(list 0 X Y)`, `the OR y`: `(list 0 Y)`, `x OR the`: `(list 0 X)`, `the OR of`: vanishes, `x OR the OR y OR z OR in`: `(list 0 X Y Z)`,
		`x | y`: `(max X Y)`, `the | y`: `(max Y)`, `x | the`: `(max X)`, `the | of`: vanishes, `the | x | of | y`: `(max X Y)`,
		`NOT x`: `(not X)`, `NOT the`: vanishes, `NOT NOT the`: vanishes, `NOT NOT x`: `(not (not X))`, `x AND NOT the`: `(list 0 +X)`, `NOT (x the)`: `(not (list 0 X))`,
		`x^2`: `(boost 2 X)`, `the^2`: vanishes, `x^0`: `(boost 0 X)`, `x^999999999`: `(boost 999999999 X)`, `(the y)^3`: `(boost 3 (list 0 Y))`, `x^=2`: `(const 2 X)`, `the^=2`: vanishes, `x^=0`: `(const 0 X)`, `x^2^=3^4`: `(boost 4 (const 3 (boost 2 X)))`, `the^2^=3^4`: vanishes, `(the | x)^=5`: `(const 5 (max X))`,
		`((the of) (in | is)^2 NOT the)`: vanishes, `(the of) OR x AND (in | NOT is)`: `(list 0 (list 0 +X))`, `+(the AND of) +(x OR (y AND the))`: `(list 0 +(list 0 X (list 0 +Y)))`, `(NOT the) OR *:*`: `(list 0 all)`, `nosuch:x the`: `(list 0 none)`, `nosuch:x OR nosuch:y`: `(list 0 none none)`, `NOT nosuch:x`: `(not none)`, `nosuch:x^2`: `(boost 2 none)`, `nosuch:x | the`: `(max none)`,
	}
	s := mustParse(t, "t:text,stop")
	names := strings.NewReplacer("X", `(term 0 "x" 0)`, "Y", `(term 0 "y" 0)`, "Z", `(term 0 "z" 0)`)
	for q, want := range rows {
		if got := outcome(t, s, treeOf(t, q)); got != names.Replace(want) {
			t.Errorf("%s is bound to %s, want %s", q, got, names.Replace(want))
		}
	}
	// Trees that no query text has.
	the, x := api.Node{Kind: api.NTerm, Text: "the"}, api.Node{Kind: api.NTerm, Text: "x"}
	for want, list := range map[string][]api.Node{
		vanishes:        {node(api.NList, 0, " ", the), node(api.NList, 3, "-", the), node(api.NAnd, 0, "", the), node(api.NOr, 0, "", the), node(api.NMax, 0, "", the), node(api.NMax, 0, "", node(api.NAnd, 0, "", the), node(api.NNot, 0, "", the))},
		`(list 0 +X)`:   {node(api.NAnd, 0, "", x), node(api.NList, 0, "+", x), node(api.NAnd, 0, "", the, x, the)},
		`(list 0 X)`:    {node(api.NOr, 0, "", x), node(api.NList, 0, " ", x), node(api.NList, 0, "+ -", the, x, the)},
		`(max X)`:       {node(api.NMax, 0, "", x), node(api.NMax, 0, "", the, x)},
		`(max (max X))`: {node(api.NMax, 0, "", node(api.NMax, 0, "", x)), node(api.NMax, 0, "", the, node(api.NMax, 0, "", x, the))},
	} {
		for _, n := range list {
			if got := outcome(t, s, n); got != names.Replace(want) {
				t.Errorf("%v is bound to %s, want %s", n, got, names.Replace(want))
			}
		}
	}
}

// P16.1: what is asked of a name is the name alone, whatever the fields' order and number.
func TestFieldNumbers(t *testing.T) {
	var s api.Schema
	for i := range api.MaxFields {
		s.Fields = append(s.Fields, api.Field{Name: "f" + strconv.Itoa(i), Kind: api.KindKeyword})
		for j, f := range s.Fields {
			want := api.Query{Kind: api.QTerm, Field: j, Text: "x"}
			if got := mustBind(t, s, treeOf(t, f.Name+":x")); !alike(got, want) {
				t.Errorf("%s is bound to %v", f.Name, got)
			}
		}
		if got := mustBind(t, s, treeOf(t, "x")); got.Field != 0 {
			t.Errorf("no field is bound to %v", got)
		}
		if got := mustBind(t, s, treeOf(t, "f"+strconv.Itoa(i+1)+":x")); !alike(got, none) {
			t.Errorf("the field behind the last one is bound to %v", got)
		}
	}
}

// holdBound holds the query of a tree against the model (P16.1), and tells whether it is good (P16.2).
func holdBound(t testing.TB, s api.Schema, n api.Node) api.Query {
	t.Helper()
	q := mustBind(t, s, n)
	if err := bind.Check(q, len(s.Fields), false); err != nil || !modelGood(q, len(s.Fields)) {
		t.Fatalf("Bind(%s) is %s, which isn't good over %d fields", brief(n), brief(q), len(s.Fields))
	}
	if got := bind.Text(q); got != modelText(q) {
		t.Fatalf("Text(%s) is %s", brief(q), got)
	}
	return q
}

// P16.1 and P16.2: many trees over many schemas.
func TestManyTrees(t *testing.T) {
	m := newMaker(161)
	seen := map[int]int{}
	var count func(q api.Query)
	count = func(q api.Query) {
		seen[q.Kind]++
		for _, kid := range q.Kids {
			count(kid)
		}
	}
	for range 2000 {
		s := m.schema()
		for range 20 {
			n := m.within(20).tree(s)
			if err := printer.Check(n); err != nil {
				t.Fatalf("%v isn't good", n)
			}
			count(holdBound(t, s, n))
		}
	}
	for kind := api.QNone; kind <= api.QConst; kind++ {
		if seen[kind] < 1000 {
			t.Errorf("%d queries of the kind %d", seen[kind], kind)
		}
	}
}

// FuzzBind holds Bind over query texts and schemas.
func FuzzBind(f *testing.F) {
	f.Add("title:text,fold,stop,stem;tag:keyword;price:number", `+Cats -"the Dogs"~2 tag:R?d* price:[1 TO x} (the)@2 | rad~`)
	f.Add(wholeText, `t1:(A\*?É OR t4:the^2) AND NOT n:\-7^=3 k:""`)
	f.Fuzz(func(t *testing.T, schemaText, q string) {
		s, err := schema.Parse(schemaText)
		n, _, wrong := syntax.Parse(q)
		if err != nil || wrong != nil {
			t.Skip()
		}
		holdBound(t, s, n)
	})
}

// FuzzTree holds Bind over made trees and schemas, and the meaning of their canonical form.
func FuzzTree(f *testing.F) {
	f.Add(int64(1), uint8(3))
	f.Add(int64(2), uint8(200))
	f.Fuzz(func(t *testing.T, seed int64, room uint8) {
		m := &maker{Rand: rand.New(rand.NewSource(seed))}
		s := m.schema()
		n := m.within(int(room) + 1).tree(s)
		holdBound(t, s, n)
		holdCanon(t, s, n, m.docs(s, 5))
	})
}
