package lexer_test

import (
	"math/rand"
	"slices"
	"strings"
	"testing"

	"concord/api"
	"concord/lexer"
)

// word, pattern, quoted, lone and numbered are tokens of their kinds, from at up to end.
func word(text string, at, end int) api.Lex {
	return api.Lex{Kind: api.LexWord, Text: text, At: at, End: end}
}

func pattern(text string, at, end int) api.Lex {
	return api.Lex{Kind: api.LexPattern, Text: text, At: at, End: end}
}

func quoted(text string, at, end int) api.Lex {
	return api.Lex{Kind: api.LexQuoted, Text: text, At: at, End: end}
}

func lone(kind, at, end int) api.Lex {
	return api.Lex{Kind: kind, At: at, End: end}
}

func numbered(kind, n, at, end int) api.Lex {
	return api.Lex{Kind: kind, N: n, At: at, End: end}
}

// want says that a text is scanned to these tokens, and LexEnd behind them.
func want(t testing.TB, q string, tokens ...api.Lex) {
	t.Helper()
	tokens = append(tokens, api.Lex{At: len(q), End: len(q)})
	got, at, err := lexer.Scan(q)
	if !slices.Equal(got, tokens) || at != 0 || err != nil {
		t.Fatalf("Scan(%q) is %v, %d, %v, want %v", q, got, at, err, tokens)
	}
}

// wantFault says that the first fault of a text is at this place.
func wantFault(t testing.TB, q string, place int) {
	t.Helper()
	got, at, err := lexer.Scan(q)
	if len(got) != 0 || at != place || err != api.ErrSyntax {
		t.Fatalf("Scan(%q) is %v, %d, %v, want a fault at %d", q, got, at, err, place)
	}
}

// shifted are tokens with their places greater by so many.
func shifted(list []api.Lex, by int) []api.Lex {
	out := slices.Clone(list)
	for i := range out {
		out[i].At += by
		out[i].End += by
	}
	return out
}

// allTexts are all texts of at most so many of these bytes.
func allTexts(most int, bytes string) []string {
	list := []string{""}
	for from, n := 0, 0; n < most; n++ {
		to := len(list)
		for _, head := range list[from:to] {
			for i := range len(bytes) {
				list = append(list, head+bytes[i:i+1])
			}
		}
		from = to
	}
	return list
}

// pieces are what made texts are put together of.
var pieces = []string{
	" ", "\t", "\n", "\r", "(", ")", "[", "]", "{", "}", ":", "|", "+", "-", "^", "^=", "^2", "^=07", "~", "~1", "@", "@3", "@999999999", "^1000000000", "~0999999999",
	"\"", "\"\"", "\"a b\"", "\"\\\"\"", "\\", "\\\\", "\\ ", "\\\"", "\\*", "*", "?", "a", "b", "=", "0", "9", "AND", "OR", "NOT", "TO", "\\AND", "T\\O", "and", "Ö", "\x00", "\xff", "\x80",
}

// madeText is a text of some pieces.
func madeText(dice *rand.Rand, most int) string {
	var out strings.Builder
	for range dice.Intn(most + 1) {
		out.WriteString(pieces[dice.Intn(len(pieces))])
	}
	return out.String()
}

// madeBytes is a text of some bytes, those of classes of their own more often than others.
func madeBytes(dice *rand.Rand, most int) string {
	out := make([]byte, dice.Intn(most+1))
	for i := range out {
		if dice.Intn(2) == 0 {
			out[i] = byte(dice.Intn(256))
		} else {
			out[i] = (apart + "+-=09ANDORT")[dice.Intn(len(apart)+11)]
		}
	}
	return string(out)
}
