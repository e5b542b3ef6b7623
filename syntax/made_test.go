package syntax_test

import (
	"math/rand"
	"slices"
	"strings"
	"testing"

	"concord/api"
	"concord/lexer"
	"concord/syntax"
)

// The nodes of trees, by their kinds.
func term(text string) api.Node          { return api.Node{Kind: api.NTerm, Text: text} }
func phrase(text string, n int) api.Node { return api.Node{Kind: api.NPhrase, Text: text, N: n} }
func prefix(text string) api.Node        { return api.Node{Kind: api.NPrefix, Text: text} }
func wild(text string) api.Node          { return api.Node{Kind: api.NWild, Text: text} }
func fuzzy(text string, n int) api.Node  { return api.Node{Kind: api.NFuzzy, Text: text, N: n} }
func span(lo, hi api.Bound) api.Node     { return api.Node{Kind: api.NSpan, Lo: lo, Hi: hi} }
func has() api.Node                      { return api.Node{Kind: api.NHas} }
func all() api.Node                      { return api.Node{Kind: api.NAll} }
func and(kids ...api.Node) api.Node      { return api.Node{Kind: api.NAnd, Kids: kids} }
func or(kids ...api.Node) api.Node       { return api.Node{Kind: api.NOr, Kids: kids} }
func most(kids ...api.Node) api.Node     { return api.Node{Kind: api.NMax, Kids: kids} }
func not(kid api.Node) api.Node          { return api.Node{Kind: api.NNot, Kids: []api.Node{kid}} }
func boost(n int, kid api.Node) api.Node {
	return api.Node{Kind: api.NBoost, N: n, Kids: []api.Node{kid}}
}
func fixed(n int, kid api.Node) api.Node {
	return api.Node{Kind: api.NConst, N: n, Kids: []api.Node{kid}}
}

// in is a leaf in a field.
func in(field string, leaf api.Node) api.Node {
	leaf.Field = field
	return leaf
}

// list is an NList with a least and, one sign a kid (blank, + or -), its kids.
func list(n int, signs string, kids ...api.Node) api.Node {
	out := api.Node{Kind: api.NList, N: n, Kids: kids}
	for _, sign := range signs {
		out.Occur = append(out.Occur, map[rune]int{' ': api.Should, '+': api.Must, '-': api.MustNot}[sign])
	}
	return out
}

// The sides of spans.
func within(text string) api.Bound  { return api.Bound{In: true, Text: text} }
func without(text string) api.Bound { return api.Bound{Text: text} }
func open() api.Bound               { return api.Bound{Open: true} }

// alike tells whether two trees are the same in every field.
func alike(a, b api.Node) bool {
	if a.Kind != b.Kind || a.Field != b.Field || a.Text != b.Text || a.N != b.N || a.Lo != b.Lo || a.Hi != b.Hi {
		return false
	}
	return slices.Equal(a.Occur, b.Occur) && slices.EqualFunc(a.Kids, b.Kids, alike)
}

// wantTree says that a text is a query text of this tree and this nest.
func wantTree(t testing.TB, q string, nest int, tree api.Node) {
	t.Helper()
	if n, at, err := syntax.Check(q); n != nest || at != 0 || err != nil {
		t.Fatalf("Check(%.300q) is %d, %d, %v, want %d", q, n, at, err, nest)
	}
	if got, at, err := syntax.Parse(q); !alike(got, tree) || at != 0 || err != nil {
		t.Fatalf("Parse(%.300q) is %v, %d, %v, want %v", q, got, at, err, tree)
	}
}

// wantDeep says that a text is a query text of this nest, which is too great for a tree.
func wantDeep(t testing.TB, q string, nest int) {
	t.Helper()
	if n, at, err := syntax.Check(q); n != nest || at != 0 || err != nil {
		t.Fatalf("Check(%.300q) is %d, %d, %v, want %d", q, n, at, err, nest)
	}
	if got, at, err := syntax.Parse(q); !alike(got, api.Node{}) || at != 0 || err != api.ErrDeep {
		t.Fatalf("Parse(%.300q) is %v, %d, %v, want ErrDeep", q, got, at, err)
	}
}

// wantFault says that a text is no query text, and where it goes wrong.
func wantFault(t testing.TB, q string, place int) {
	t.Helper()
	if n, at, err := syntax.Check(q); n != 0 || at != place || err != api.ErrSyntax {
		t.Fatalf("Check(%.300q) is %d, %d, %v, want a fault at %d", q, n, at, err, place)
	}
	if got, at, err := syntax.Parse(q); !alike(got, api.Node{}) || at != place || err != api.ErrSyntax {
		t.Fatalf("Parse(%.300q) is %v, %d, %v, want a fault at %d", q, got, at, err, place)
	}
}

// wantFollow says what may come behind a row.
func wantFollow(t testing.TB, row []api.Lex, kinds []int) {
	t.Helper()
	if got := syntax.Follow(row); !slices.Equal(got, kinds) {
		t.Fatalf("Follow(%v) is %v, want %v", row, got, kinds)
	}
}

// spellings are ways to write the tokens that the grammar names.
var spellings = map[string][]string{
	"Word":    {"a", "bc", "t", `\AND`, "x-y", `\*`, `\+`, "é", "7"},
	"Pattern": {"*", "a*", "a?b", `\**`, "**", "?", "*a", `ab\?*`, `\\*`, "a*\\*"},
	"Quoted":  {`""`, `"a"`, `"a b"`, `"\""`, `"*"`},
	"AND":     {"AND"}, "OR": {"OR"}, "NOT": {"NOT"}, "TO": {"TO"},
	"Open": {"("}, "Close": {")"}, "Square": {"["}, "Squared": {"]"}, "Curly": {"{"}, "Curled": {"}"},
	"Colon": {":"}, "Plus": {"+"}, "Minus": {"-"}, "Bar": {"|"},
	"Boost": {"^0", "^1", "^2", "^007", "^999999999"},
	"Const": {"^=0", "^=3", "^=999999999"},
	"Least": {"@0", "@1", "@2", "@00", "@999999999"},
	"Star":  {"*"},
	"Edits": {"~", "~1", "~2", "~02"},
	"Slop":  {"~0", "~1", "~2", "~3", "~999999999"},
	"End":   {""},
}

// tokenTexts are all kinds of tokens but the End, and the kinds that the grammar makes out of them.
var tokenTexts = []string{
	"a", "*", "b?", `"q"`, "AND", "OR", "NOT", "TO", "(", ")", "[", "]", "{", "}", ":", "+", "-", "|", "^2", "^=3", "~", "~0", "~1", "~2", "~3", "@0", "@2",
}

// scanned are the tokens of texts put one behind the other, but for the End.
func scanned(texts ...string) []api.Lex {
	tokens, _, err := lexer.Scan(strings.Join(texts, " "))
	if err != nil {
		panic(err)
	}
	return tokens[:len(tokens)-1]
}

// allTokens are the tokens of tokenTexts, and the End.
func allTokens() []api.Lex {
	return append(scanned(tokenTexts...), api.Lex{Kind: api.LexEnd})
}

// eachRow goes over all rows of at most so many of the texts.
func eachRow(most int, texts []string, do func(row []string)) {
	var grow func(row []string)
	grow = func(row []string) {
		do(row)
		if len(row) == most {
			return
		}
		for _, text := range texts {
			grow(append(row[:len(row):len(row)], text))
		}
	}
	grow(nil)
}

// maker makes query texts by the grammar.
type maker struct {
	dice *rand.Rand
	room int
}

// madeQuery is a query text of about so many tokens at most.
func madeQuery(dice *rand.Rand, room int) string {
	m := maker{dice, dice.Intn(room) + 1}
	return m.glued(m.texts(theGrammar.parts["Query"]))
}

// texts are token texts that a piece of the grammar derives. Without room left it takes no more than it must.
func (m *maker) texts(e int) []string {
	x := theGrammar.exprs[e]
	switch x.op {
	case 'n':
		return m.named(x.name)
	case '/':
		if m.room <= 0 {
			return m.texts(x.kids[0])
		}
		return m.texts(x.kids[m.dice.Intn(len(x.kids))])
	case '.':
		return append(m.texts(x.kids[0]), m.texts(x.kids[1])...)
	}
	var out []string
	for m.room > 0 && m.dice.Intn(3) == 0 {
		out = append(out, m.texts(x.kids[0])...)
		if x.op == '[' {
			break
		}
	}
	return out
}

func (m *maker) named(name string) []string {
	if name == "Unary" && m.room <= 0 {
		name = "Piece"
	}
	if part, ok := theGrammar.parts[name]; ok {
		return m.texts(part)
	}
	m.room--
	ways := spellings[name]
	return []string{ways[m.dice.Intn(len(ways))]}
}

// glued are tokens put one behind the other, with blanks between, or with none where they stay apart without.
func (m *maker) glued(texts []string) string {
	out := ""
	for i, text := range texts {
		if i > 0 && !(m.dice.Intn(2) == 0 && stayApart(texts[i-1], text)) {
			out += madeBlanks(m.dice)
		}
		out += text
	}
	return out
}

// stayApart tells whether two tokens are the same ones with nothing between them.
func stayApart(a, b string) bool {
	both, _, err := lexer.Scan(a + b)
	if err != nil || len(both) != len(scanned(a))+len(scanned(b))+1 {
		return false
	}
	return both[0].End == len(a)
}

// madeBlanks are some blanks, one at least.
func madeBlanks(dice *rand.Rand) string {
	out := ""
	for range 1 + dice.Intn(2) {
		out += string(" \t\n\r"[dice.Intn(4)])
	}
	return out
}

// spoilt is a text with a token dropped, put in, or changed for another one.
func spoilt(dice *rand.Rand, q string) string {
	tokens, _, err := lexer.Scan(q)
	if err != nil {
		return q
	}
	var texts []string
	for _, token := range tokens[:len(tokens)-1] {
		texts = append(texts, q[token.At:token.End])
	}
	other := tokenTexts[dice.Intn(len(tokenTexts))]
	at := dice.Intn(len(tokens))
	switch {
	case at == len(texts) || dice.Intn(3) == 0:
		texts = slices.Insert(texts, at, other)
	case dice.Intn(2) == 0:
		texts = slices.Delete(texts, at, at+1)
	default:
		texts[at] = other
	}
	return strings.Join(texts, " ")
}

// madeText is a text of some tokens, or of what is none.
func madeText(dice *rand.Rand, most int) string {
	out := ""
	for range dice.Intn(most + 1) {
		switch dice.Intn(12) {
		case 0:
			out += []string{"^", `"`, `\`, "@", "^=", "~1000000000"}[dice.Intn(6)]
		case 1, 2, 3:
			out += " "
		default:
			out += tokenTexts[dice.Intn(len(tokenTexts))]
		}
	}
	return out
}
