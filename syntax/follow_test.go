package syntax_test

import (
	"math/rand"
	"slices"
	"strings"
	"testing"

	"concord/api"
	"concord/lexer"
	"concord/syntax"
)

// holdFollow holds Follow of a row against the model.
func holdFollow(t testing.TB, row []api.Lex) {
	t.Helper()
	if !modelBegins(row) {
		wantFollow(t, row, nil)
		return
	}
	want := modelFollow(row, allTokens())
	if ended := len(row) > 0 && row[len(row)-1].Kind == api.LexEnd; ended != (len(want) == 0) {
		t.Fatalf("behind %v, which begins a query text, the grammar has %v", row, want)
	}
	wantFollow(t, row, want)
}

// kinds of tokens that may begin a Body, a Unary and a Clause.
var (
	bodies  = []int{api.LexWord, api.LexPattern, api.LexQuoted, api.LexOpen, api.LexSquare, api.LexCurly}
	unaries = append(slices.Clone(bodies), api.LexNot)
	clauses = append(slices.Clone(unaries), api.LexPlus, api.LexMinus)
)

// kindsOf are kinds, sorted.
func kindsOf(list []int, more ...int) []int {
	out := append(slices.Clone(list), more...)
	slices.Sort(out)
	return out
}

// P14.3: rows of every part of the grammar, and the examples of the chapter.
func TestFollowRows(t *testing.T) {
	marks := append(slices.Clone(clauses), api.LexBoost, api.LexConst)
	joins := append(slices.Clone(marks), api.LexAnd, api.LexOr, api.LexBar)
	sides := []int{api.LexWord, api.LexPattern, api.LexQuoted}
	for text, want := range map[string][]int{
		"": {1, 2, 3, 6, 8, 10, 12, 15, 16}, "[ a": {7}, "* :": {2},
		"+": kindsOf(unaries), "-": kindsOf(unaries), "NOT": kindsOf(unaries), "+ NOT": kindsOf(unaries), "a OR": kindsOf(unaries), "a AND": kindsOf(unaries), "a |": kindsOf(unaries), "a NOT": kindsOf(unaries),
		"(": kindsOf(clauses), "a (": kindsOf(clauses), "t : (": kindsOf(clauses), "t :": kindsOf(bodies), "NOT t :": kindsOf(bodies), "( * :": {2},
		"a": kindsOf(joins, 0, 14, 20), "t : a": kindsOf(joins, 0, 20), "a ~": kindsOf(joins, 0), "a ~1": kindsOf(joins, 0), "*": kindsOf(joins, 0, 14), "t : *": kindsOf(joins, 0), "b?": kindsOf(joins, 0), "* : *": kindsOf(joins, 0), `"q"`: kindsOf(joins, 0, 20), `"q" ~0`: kindsOf(joins, 0), "[ a TO b ]": kindsOf(joins, 0), "a ^2": kindsOf(joins, 0), "a ^2 ^=3": kindsOf(joins, 0), "( a )": kindsOf(joins, 0, 21), "( a ) @0": kindsOf(joins, 0), "( a ) ^2": kindsOf(joins, 0),
		"+ a": kindsOf(marks, 0, 14, 20), "- a ^2": kindsOf(marks, 0), "+ * : *": kindsOf(marks, 0), "+ ( a )": kindsOf(marks, 0, 21), "+ NOT a ~": kindsOf(marks, 0), "+ a b": kindsOf(joins, 0, 14, 20), "a OR b": kindsOf(joins, 0, 14, 20), "+ ( a OR b )": kindsOf(marks, 0, 21),
		"( a": kindsOf(joins, 9, 14, 20), "( + a": kindsOf(marks, 9, 14, 20), "+ ( a": kindsOf(joins, 9, 14, 20), "( ( a )": kindsOf(joins, 9, 21), "( ( a ) )": kindsOf(joins, 0, 21), "( ( a ) @2": kindsOf(joins, 9), "+ ( a ) ( b": kindsOf(joins, 9, 14, 20), "( + a ) b": kindsOf(joins, 0, 14, 20),
		"[": kindsOf(sides), "{": kindsOf(sides), "[ a TO": kindsOf(sides), "[ *": {7}, `{ "q"`: {7}, "[ a TO *": {11, 13}, "{ a TO b": {11, 13}, "t : [": kindsOf(sides),
		"b? :": nil, "AND": nil, ")": nil, "a )": nil, "a ~0": nil, "a ~3": nil, `"q" ~`: nil, `"q" : a`: nil, "t : u :": nil, "( )": nil, "+ a OR": nil, "[ b?": nil, "[ a b": nil, "* : a": nil, "* : b?": nil, "* : * :": nil, "* ~": nil, "a @0": nil, "( a ) @0 @2": nil, "NOT +": nil, "^2": nil, "~": nil, "a AND OR": nil, "a TO": nil,
	} {
		wantFollow(t, scanned(text), want)
		holdFollow(t, scanned(text))
	}
}

// P14.3: every row of tokens that begins a query text, up to a length, and every row that is one of these and a token that may not follow.
func TestFollowOfShortRows(t *testing.T) {
	tokens := allTokens()
	var grow func(row []api.Lex, most int)
	grow = func(row []api.Lex, most int) {
		holdFollow(t, row)
		if len(row) == most || !modelBegins(row) {
			return
		}
		for _, token := range tokens {
			grow(append(slices.Clone(row), token), most)
		}
	}
	grow(nil, 3)
	grow(scanned("(", "+", "a"), 5)
	grow(scanned("t", ":", "(", "a", ")"), 6)
	grow(scanned("[", "a", "TO"), 5)
	grow(scanned("*", ":", "*"), 4)
}

// P14.3: rows up to a length of fewer tokens.
func TestFollowOfFew(t *testing.T) {
	for _, few := range []struct {
		most  int
		texts string
	}{{6, "a ( )"}, {5, "t : * ("}, {4, "a + OR NOT ^2"}, {6, "[ a TO ]"}, {5, "* :"}} {
		eachRow(few.most, strings.Fields(few.texts), func(row []string) { holdFollow(t, scanned(row...)) })
	}
}

// P14.3: each kind once, rising, from nothing else than the kinds that there are.
func TestFollowRises(t *testing.T) {
	dice := rand.New(rand.NewSource(143))
	for range 600 {
		tokens, _, _ := lexer.Scan(madeQuery(dice, 20))
		for i := range tokens {
			list := syntax.Follow(tokens[:i])
			if len(list) == 0 || list[0] < api.LexEnd || list[len(list)-1] > api.LexLeast || !slices.Contains(list, tokens[i].Kind) {
				t.Fatalf("Follow(%v) is %v", tokens[:i], list)
			}
			for j := 1; j < len(list); j++ {
				if list[j] <= list[j-1] {
					t.Fatalf("Follow(%v) is %v", tokens[:i], list)
				}
			}
		}
		wantFollow(t, tokens, nil)
		holdFollow(t, tokens[:dice.Intn(len(tokens))])
	}
}

// P14.3: rows with an End.
func TestFollowOfEnd(t *testing.T) {
	end := api.Lex{Kind: api.LexEnd}
	for _, text := range []string{"", "a", "( a", "( a )", "+", "a OR", "* : *", "[ a TO b ]", "AND", "a )"} {
		wantFollow(t, append(scanned(text), end), nil)
		wantFollow(t, append(scanned(text), end, end), nil)
		for _, token := range allTokens() {
			wantFollow(t, append(scanned(text), end, token), nil)
			wantFollow(t, append([]api.Lex{end, token}, scanned(text)...), nil)
		}
	}
}

// P14.3: rows that no text is scanned to.
func TestFollowOfOddTokens(t *testing.T) {
	lex := func(kind int, text string, n int) api.Lex { return api.Lex{Kind: kind, Text: text, N: n} }
	word, quoted := lex(api.LexWord, "", 0), lex(api.LexQuoted, "", 0)
	rows := [][]api.Lex{{word}, {lex(api.LexWord, "*", 7)}, {lex(api.LexWord, "*", 0), lex(api.LexColon, "*", 0)}, {lex(api.LexQuoted, "*", 0), lex(api.LexColon, "", 0)}, {lex(api.LexOpen, "*", -1), word}}
	for _, kind := range []int{-1, -2, 22, 23, 31, 32, 33, 64, 77, 1 << 40, -1 << 62} {
		rows = append(rows, []api.Lex{lex(kind, "", 0)}, []api.Lex{lex(kind, "*", -1)}, []api.Lex{word, lex(kind, "", 1)}, []api.Lex{lex(api.LexSquare, "", 0), lex(kind, "a", 0)}, []api.Lex{word, lex(kind, "", 0), word})
	}
	for _, n := range []int{-1 << 63, -3, -2, -1, 0, 1, 2, 3, api.MaxNumber, api.MaxNumber + 1, 1<<63 - 1} {
		rows = append(rows, []api.Lex{word, lex(api.LexTilde, "*", n)}, []api.Lex{quoted, lex(api.LexTilde, "", n)}, []api.Lex{word, lex(api.LexBoost, "", n)}, []api.Lex{word, lex(api.LexConst, "a", n)}, []api.Lex{lex(api.LexOpen, "", n), word, lex(api.LexClose, "", n), lex(api.LexLeast, "", n)})
	}
	for _, text := range []string{"", "*", "**", "a", "a*", `\*`, `\`, " *", "* ", "?"} {
		star := lex(api.LexPattern, text, 5)
		rows = append(rows, []api.Lex{star}, []api.Lex{star, lex(api.LexColon, "", 0)}, []api.Lex{star, lex(api.LexColon, "", 0), star}, []api.Lex{lex(api.LexCurly, "", 0), star}, []api.Lex{word, lex(api.LexColon, "", 0), star}, []api.Lex{lex(api.LexPattern, "*", 0), lex(api.LexColon, "", 0), star})
	}
	for _, row := range rows {
		holdFollow(t, row)
	}
	wantFollow(t, []api.Lex{lex(api.LexWord, "*", 0), lex(api.LexColon, "", 0)}, kindsOf(bodies))
	wantFollow(t, []api.Lex{lex(api.LexPattern, "", 0), lex(api.LexColon, "", 0)}, nil)
	wantFollow(t, []api.Lex{word, lex(api.LexTilde, "", -2)}, nil)
	wantFollow(t, []api.Lex{quoted, lex(api.LexTilde, "", -2)}, nil)
}

// P14.3: of a token its Kind alone is looked at, but for the Text of a LexPattern and the N of a LexTilde.
func TestFollowLooksAtKinds(t *testing.T) {
	dice := rand.New(rand.NewSource(147))
	for range 3000 {
		row, _, _ := lexer.Scan(madeQuery(dice, 20))
		row = row[:dice.Intn(len(row)+1)]
		want := syntax.Follow(row)
		for i := range row {
			row[i].At, row[i].End = dice.Intn(100)-50, dice.Intn(100)-50
			if row[i].Kind != api.LexPattern {
				row[i].Text = []string{"", "*", "a", "AND", "~"}[dice.Intn(5)]
			}
			if row[i].Kind != api.LexTilde {
				row[i].N = dice.Intn(10) - 5
			}
		}
		wantFollow(t, row, want)
	}
}

// P14.3: a row of any length, nested as deep as may be.
func TestFollowOfLongRows(t *testing.T) {
	const n = 100000
	opens := slices.Repeat(scanned("("), n)
	wantFollow(t, opens, kindsOf(clauses))
	wantFollow(t, slices.Concat(opens, scanned("[", "a")), []int{7})
	deep := slices.Concat(opens, scanned("a"), slices.Repeat(scanned(")"), n))
	if list := syntax.Follow(deep); !slices.Contains(list, api.LexEnd) || slices.Contains(list, api.LexClose) {
		t.Errorf("behind all brackets closed: %v", list)
	}
	if list := syntax.Follow(deep[:len(deep)-1]); slices.Contains(list, api.LexEnd) || !slices.Contains(list, api.LexClose) {
		t.Errorf("behind all brackets closed but one: %v", list)
	}
	wantFollow(t, append(deep, scanned(")")...), nil)
}

// FuzzFollow holds Follow of rows of any tokens against the model.
func FuzzFollow(f *testing.F) {
	tokens := append(allTokens(), api.Lex{Kind: -1}, api.Lex{Kind: 22}, api.Lex{Kind: api.LexTilde, N: -2}, api.Lex{Kind: api.LexPattern}, api.Lex{Kind: api.LexWord, Text: "*"})
	for i := range tokens {
		f.Add([]byte{byte(i)})
		f.Add([]byte{8, 0, byte(i), 0})
	}
	f.Fuzz(func(t *testing.T, numbers []byte) {
		if len(numbers) > 12 {
			return
		}
		var row []api.Lex
		for _, n := range numbers {
			row = append(row, tokens[int(n)%len(tokens)])
		}
		holdFollow(t, row)
	})
}
