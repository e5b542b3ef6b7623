package syntax_test

import (
	"math/rand"
	"slices"
	"strings"
	"testing"

	"concord/api"
	"concord/lexer"
	"concord/syntax"
)

// holdText holds Check and Parse of a text against the model (P14.1), the ways in which the grammar derives it (P14.2), and what is promised of the place of a fault (P14.3).
func holdText(t testing.TB, q string) {
	t.Helper()
	model := modelText(q)
	if model.place >= 0 {
		wantFault(t, q, model.place)
		if model.at >= 0 {
			holdPlace(t, model.tokens, model.at)
		}
	} else if nest := modelNest(model.list); nest <= api.MaxNest {
		wantTree(t, q, nest, modelTree(model.list, ""))
	} else {
		wantDeep(t, q, nest)
	}
	if _, _, err := syntax.Check(q); (err == nil) != (model.ways == 1) || model.ways > 1 {
		t.Fatalf("the grammar derives %q in %d ways, and Check answers %v", q, model.ways, err)
	}
}

// holdPlace holds that the tokens ahead of a fault begin a query text, and that with the one at its place they don't. Something can be put behind each row that begins a query text and doesn't end it.
func holdPlace(t testing.TB, tokens []api.Lex, at int) {
	t.Helper()
	ahead := syntax.Follow(tokens[:at])
	if len(ahead) == 0 {
		t.Fatalf("Follow(%v) is nothing, but the fault is behind it", tokens[:at])
	}
	if k := tokens[at].Kind; k != api.LexPattern && k != api.LexTilde && slices.Contains(ahead, k) {
		t.Fatalf("Follow(%v) is %v, but the fault is at %v", tokens[:at], ahead, tokens[at])
	}
	wantFollow(t, tokens[:at+1], nil)
}

// The model counts two ways where there are two, and tells which rows begin one that is derived.
func TestModelCounts(t *testing.T) {
	g := readGrammar("Sum = Word / Word Plus Sum / Twice\nTwice = { Word } [ Quoted ] Close\nList = Part { Part }\nPart = Word / Word Word\n")
	ways := func(part string, texts ...string) int {
		row := scanned(texts...)
		return newLooker(g, row).count(g.parts[part], 0, len(row))
	}
	for n, want := range []int{0, 1, 2, 3, 5, 8, 13} {
		if got := ways("List", slices.Repeat([]string{"a"}, n)...); got != want {
			t.Errorf("%d words are derived in %d ways, want %d", n, got, want)
		}
	}
	if n := ways("Sum", "a", "+", "a", "+", "a"); n != 1 {
		t.Errorf("the sum is derived in %d ways", n)
	}
	if n, m, k := ways("Sum", "a", "a", `"q"`, ")"), ways("Sum", ")"), ways("Sum", "a", `"q"`, `"q"`, ")"); n != 1 || m != 1 || k != 0 {
		t.Errorf("they are derived in %d, %d and %d ways", n, m, k)
	}
	for text, want := range map[string]bool{"": true, "a +": true, "a + a +": true, "a a a": true, `a "q"`: true, `a "q" a`: false, "+": false, "a + +": false, `a + "q" )`: true, ") )": false} {
		if got := newLooker(g, scanned(text)).begins(g.parts["Sum"], 0); got != want {
			t.Errorf("%q begins a sum: %v", text, got)
		}
	}
}

// P14.1, P14.2, P14.3: all rows of three tokens at most.
func TestAllShortRows(t *testing.T) {
	eachRow(3, tokenTexts, func(row []string) { holdText(t, strings.Join(row, " ")) })
}

// P14.1, P14.2, P14.3: longer rows of fewer tokens.
func TestAllRowsOfFew(t *testing.T) {
	for _, few := range []struct {
		most  int
		texts string
	}{
		{6, "a ( ) @2 ^2"}, {4, "a + OR AND | NOT"}, {6, "[ a TO * ]"}, {6, "t : * ( )"}, {4, `a "q" ~ ~1 ~3 :`}, {7, "a ( )"}, {6, "a NOT ^=3 ("}, {8, "* :"}, {7, "a OR AND"}, {6, "a @0 - )"},
	} {
		eachRow(few.most, strings.Fields(few.texts), func(row []string) { holdText(t, strings.Join(row, " ")) })
	}
}

// P14.1, P14.2, P14.3: all rows in brackets, where other tokens may follow than outside.
func TestAllShortRowsInBrackets(t *testing.T) {
	eachRow(2, tokenTexts, func(row []string) {
		q := strings.Join(row, " ")
		holdText(t, "("+q+" )")
		holdText(t, "t:( a "+q)
		holdText(t, "(a) "+q+" b")
		holdText(t, "+a "+q+" b")
	})
}

// P14.1, P14.2: query texts made by the grammar, and what becomes of them if a token is spoilt.
func TestMadeQueries(t *testing.T) {
	dice := rand.New(rand.NewSource(141))
	for range 3000 {
		q := madeQuery(dice, 16)
		if model := modelText(q); model.ways != 1 {
			t.Fatalf("%q was made by the grammar, and is derived in %d ways", q, model.ways)
		}
		holdText(t, q)
		holdText(t, spoilt(dice, q))
		holdText(t, spoilt(dice, spoilt(dice, q)))
	}
	for range 100 {
		holdText(t, madeQuery(dice, 60))
	}
}

// P14.1: made texts, such as aren't scanned too.
func TestMadeTexts(t *testing.T) {
	dice := rand.New(rand.NewSource(142))
	for range 20000 {
		holdText(t, madeText(dice, 10))
	}
}

// P14.1: at every token of a query text each token that may not stand there is a fault at its place.
func TestFaultAtEveryToken(t *testing.T) {
	const q = `t:(a b~1 OR "c d"~2 | *:*) AND NOT [x TO *}^2 -(u:b* c)@2^=3 *`
	model := modelText(q)
	if model.ways != 1 {
		t.Fatal("no query text")
	}
	for i, token := range model.tokens {
		ahead, row := q[:token.At]+" ", model.tokens[:i:i]
		for _, text := range tokenTexts {
			if !modelBegins(append(row, scanned(text)...)) {
				wantFault(t, ahead+text+" "+q[token.At:], len(ahead))
				wantFault(t, ahead+text, len(ahead))
			}
		}
		if !modelBegins(append(row, api.Lex{Kind: api.LexEnd})) {
			wantFault(t, ahead, len(ahead))
		}
	}
}

// P14.4
func TestBrackets(t *testing.T) {
	dice := rand.New(rand.NewSource(144))
	queries := []string{"a", "a b", "+a", "-a", "(a)", "(a b)@2", "*:*", "*", " a ", "a OR b", "NOT a", "t:(a u:b)", `a\ `, `a\)`, `")"`, "a^2", "a~", `"a"~0`, "[a TO b}", "\ta\n"}
	for range 3000 {
		queries = append(queries, madeQuery(dice, 30))
	}
	for _, q := range queries {
		nest, _, err := syntax.Check(q)
		if err != nil {
			t.Fatalf("Check(%q) is %v", q, err)
		}
		tree, _, err := syntax.Parse(q)
		if err != nil {
			t.Fatalf("Parse(%q) is %v", q, err)
		}
		for more := 1; nest+more <= api.MaxNest && more < 4; more++ {
			q = "(" + q + ")"
			wantTree(t, q, nest+more, tree)
		}
	}
}

// P14.5
func TestBlanksBetween(t *testing.T) {
	dice := rand.New(rand.NewSource(145))
	for range 5000 {
		q := madeQuery(dice, 30)
		tokens, _, _ := lexer.Scan(q)
		nest, _, err := syntax.Check(q)
		if err != nil {
			t.Fatalf("Check(%q) is %v", q, err)
		}
		tree, _, err := syntax.Parse(q)
		if err != nil {
			t.Fatalf("Parse(%q) is %v", q, err)
		}
		one := 1 + dice.Intn(len(tokens))
		wantTree(t, q[:tokens[one-1].At]+madeBlanks(dice)+q[tokens[one-1].At:], nest, tree)
		wide := ""
		for _, token := range tokens {
			wide += madeBlanks(dice) + q[token.At:token.End]
		}
		wantTree(t, wide, nest, tree)
	}
	tree := fixed(4, list(2, "  ", in("t", a), most(boost(3, in("t", phrase("b", 2))), all())))
	for _, q := range []string{`t:(a"b"~2^3|*:*)@2^=4`, ` t : ( a "b" ~2 ^3 | * : * ) @2 ^=4 `, "t:\n(a\r\"b\"~2\t^3|*  :*)\t@2^=4"} {
		wantTree(t, q, 3, tree)
	}
}

// FuzzText holds Check and Parse against the model.
func FuzzText(f *testing.F) {
	for _, text := range tokenTexts {
		f.Add(text)
		f.Add("a " + text + "(b)")
	}
	f.Add(`+t:(a b~1 "c d"~2 | *:*)@2 AND NOT [x TO *}^2 -u:b*`)
	f.Fuzz(func(t *testing.T, q string) {
		if tokens, _, _ := lexer.Scan(q); len(tokens) <= 40 {
			holdText(t, q)
		}
	})
}
