package printer_test

import (
	"slices"
	"strings"
	"testing"

	"concord/api"
	"concord/lexer"
	"concord/printer"
)

// sample is a tree that is its own canonical form, its printed form and its nest.
type sample struct {
	tree api.Node
	text string
	nest int
}

// wantSamples says what trees are printed as, and that they are read again.
func wantSamples(t *testing.T, list []sample) {
	t.Helper()
	for _, s := range list {
		wantPrint(t, s.tree, s.tree, s.text, s.nest)
		holdTree(t, s.tree)
		holdParsed(t, s.tree)
	}
}

// P15.1: the examples of the chapter, 1 to 6.
func TestExamples(t *testing.T) {
	wantSamples(t, []sample{
		{and(a, or(b, c)), "a AND (b OR c)", 1},
		{or(a, and(b, c)), "a OR b AND c", 0},
		{or(or(a, b), c), "(a OR b) OR c", 1},
		{list(1, " ", a), "(a)@1", 1},
		{list(0, "+- ", a, or(b, c), or(b, c)), "+a -(b OR c) b OR c", 1},
		{not(not(boost(2, and(a, b)))), "NOT NOT (a AND b)^2", 4},
		{boost(3, not(a)), "(NOT a)^3", 3},
		{fixed(0, boost(2, a)), "a^2^=0", 2},
		{in("t", term("x")), "t:x", 0},
		{in("t", phrase("x y", 2)), `t:"x y"~2`, 0},
		{span(within("a"), open()), "[a TO *]", 0},
		{span(without("a"), within("")), `{a TO ""]`, 0},
		{in("t", has()), "t:*", 0},
		{prefix("ab"), "ab*", 0},
		{most(a, most(b, c)), "a | (b | c)", 1},
		{list(0, "+", list(2, "  ", a, b)), "+(a b)@2", 1},
	})
	wantPrint(t, or(a), a, "a", 0)
	wantPrint(t, list(0, " ", a), a, "a", 0)
}

// P15.1: the examples of the chapter, 7.
func TestBadExamples(t *testing.T) {
	openText := span(open(), open())
	openText.Lo.Text = "x"
	for _, n := range []api.Node{{}, term(""), {Kind: api.NTerm, Text: "a", N: 1}, and(), not(a, b), list(0, " ", a, b), wild("ab*"), wild("*"), wild("ab"), wild(`\a?`), fuzzy("a", 3), openText} {
		wantBad(t, n)
	}
}

// P15.1: leaves of every kind.
func TestLeaves(t *testing.T) {
	wantSamples(t, []sample{
		{term("a"), "a", 0}, {term("a-b"), "a-b", 0}, {term("-a:b"), `\-a\:b`, 0}, {term("OR"), `\OR`, 0}, {term("a*"), `a\*`, 0}, {term("a b"), `a\ b`, 0}, {in("a:b", term("c")), `a\:b:c`, 0}, {in("TO", term("TO")), `\TO:\TO`, 0}, {in("*", term("*")), `\*:\*`, 0}, {in("+t", term("+a")), `\+t:\+a`, 0},
		{phrase("", 0), `""`, 0}, {phrase("", 1), `""~1`, 0}, {phrase(`a "b" \`, 0), `"a \"b\" \\"`, 0}, {phrase("AND", api.MaxNumber), `"AND"~999999999`, 0}, {phrase("a*", 10), `"a*"~10`, 0}, {in("AND", phrase("-", 0)), `\AND:"-"`, 0},
		{prefix("a"), "a*", 0}, {prefix("*"), `\**`, 0}, {prefix(`a?\`), `a\?\\*`, 0}, {prefix("+-"), `\+-*`, 0}, {prefix("AND"), "AND*", 0}, {prefix("a b"), `a\ b*`, 0}, {prefix("()"), `\(\)*`, 0}, {in("t*", prefix("é")), `t\*:é*`, 0},
		{wild("a?"), "a?", 0}, {wild("**"), "**", 0}, {wild(`\*?`), `\*?`, 0}, {wild("+?"), `\+?`, 0}, {wild("?+"), "?+", 0}, {wild("* a"), `*\ a`, 0}, {wild(`a*\\`), `a*\\`, 0}, {in("t", wild("*a*")), "t:*a*", 0}, {in("t", wild("-*a")), `t:\-*a`, 0},
		{fuzzy("a", 1), "a~1", 0}, {fuzzy("a", 2), "a~2", 0}, {fuzzy("NOT", 2), `\NOT~2`, 0}, {fuzzy("~", 1), `\~~1`, 0}, {in("t", fuzzy("*", 1)), `t:\*~1`, 0},
		{span(without("a"), without("b")), "{a TO b}", 0}, {span(within("a"), without("b")), "[a TO b}", 0}, {span(without("a"), within("b")), "{a TO b]", 0}, {span(within("a"), within("b")), "[a TO b]", 0}, {span(open(), open()), "[* TO *]", 0}, {span(open(), without("b")), "[* TO b}", 0}, {span(without("a"), open()), "{a TO *]", 0},
		{span(within("*"), without("TO")), `[\* TO \TO}`, 0}, {span(without(""), without("")), `{"" TO ""}`, 0}, {span(within(""), within("-1")), `["" TO \-1]`, 0}, {in("t", span(without(`"`), open())), `t:{\" TO *]`, 0}, {span(within("a b"), within("]")), `[a\ b TO \]]`, 0},
		{has(), "*", 0}, {in("*", has()), `\*:*`, 0}, {all(), "*:*", 0},
	})
}

// P15.1: numbers are in decimal digits.
func TestNumberTexts(t *testing.T) {
	for n, text := range map[int]string{0: "0", 1: "1", 9: "9", 10: "10", 105: "105", 1000000: "1000000", api.MaxNumber: "999999999"} {
		wantSamples(t, []sample{{boost(n, a), "a^" + text, 1}, {fixed(n, a), "a^=" + text, 1}})
		if n > 0 {
			wantSamples(t, []sample{{list(n, "  ", a, b), "(a b)@" + text, 1}, {phrase("a", n), `"a"~` + text, 0}})
		}
	}
}

// inners are trees of every level, and the texts of their forms.
var inners = []struct {
	level int
	tree  api.Node
	form  string
	nest  int
}{
	{0, list(0, "  ", b, c), "b c", 0}, {0, list(0, "+", b), "+b", 0}, {0, list(0, "-", b), "-b", 0}, {1, or(b, c), "b OR c", 0}, {2, and(b, c), "b AND c", 0}, {3, most(b, c), "b | c", 0}, {4, not(b), "NOT b", 1}, {5, boost(2, b), "b^2", 1}, {5, fixed(3, b), "b^=3", 1},
	{6, list(1, " ", b), "(b)@1", 1}, {6, list(2, "  ", b, c), "(b c)@2", 1}, {6, b, "b", 0}, {6, phrase("b c", 2), `"b c"~2`, 0}, {6, prefix("b"), "b*", 0}, {6, wild("b?"), "b?", 0}, {6, fuzzy("b", 1), "b~1", 0}, {6, span(within("b"), open()), "[b TO *]", 0}, {6, has(), "*", 0}, {6, all(), "*:*", 0}, {6, in("t", b), "t:b", 0},
}

// P15.1: every kind as a kid of every kind, with and without brackets.
func TestEveryKindInEveryKind(t *testing.T) {
	for _, x := range inners {
		wantSamples(t, []sample{{x.tree, x.form, x.nest}})
		for _, y := range outers {
			form, nest := x.form, x.nest
			if x.level < y.least {
				form, nest = "("+form+")", nest+1
			}
			text, nest := y.first+form+y.last, nest+y.by
			wantSamples(t, []sample{{y.wrap(x.tree), text, nest}})
		}
	}
}

// P15.1: three kinds in one another.
func TestThreeDeep(t *testing.T) {
	for _, x := range inners {
		for _, y := range outers {
			for _, z := range outers {
				n := z.wrap(y.wrap(x.tree))
				holdTree(t, n)
				holdParsed(t, n)
			}
		}
	}
}

// P15.1: nodes of one kid within others fall away, all but those that mean something.
func TestIdleNodes(t *testing.T) {
	for _, x := range inners {
		for _, f := range idles {
			wantPrint(t, f(x.tree), x.tree, x.form, x.nest)
			for _, y := range outers {
				want := y.wrap(x.tree)
				text, _ := printer.Print(want)
				nest, _ := printer.Nest(want)
				for _, n := range []api.Node{y.wrap(f(x.tree)), f(y.wrap(x.tree)), f(y.wrap(f(f(x.tree))))} {
					wantPrint(t, n, want, text, nest)
					holdParsed(t, n)
				}
			}
		}
	}
	for _, n := range []api.Node{list(1, " ", a), list(0, "+", a), list(0, "-", a), list(1, "+", a), list(0, "  ", a, b), or(a, a), and(a, a), most(a, a), not(a), boost(1, a), fixed(1, a), list(0, "++", a, a)} {
		if got, err := printer.Canon(n); !alike(got, n) || err != nil {
			t.Errorf("Canon(%v) is %v, %v", n, got, err)
		}
	}
	wantPrint(t, or(list(0, " ", and(a)), most(list(0, "+", or(b)))), or(a, list(0, "+", b)), "a OR (+b)", 1)
	wantPrint(t, list(2, " ", list(0, " ", list(0, "  ", a, b))), list(2, " ", list(0, "  ", a, b)), "((a b))@2", 2)
	wantPrint(t, list(0, "+", list(0, " ", or(a, b))), list(0, "+", or(a, b)), "+(a OR b)", 1)
}

// texts are all texts of one byte, each byte ahead of, between and behind letters, and odd ones.
func texts() []string {
	out := slices.Clone(oddTexts)
	for i := range 256 {
		s := string([]byte{byte(i)})
		out = append(out, s, s+"a", "a"+s, "a"+s+"b", s+s, "+"+s, "-"+s, `\`+s, s+`\`)
	}
	return out
}

// P15.1: texts of every byte and words of the language, as a Text and as a Field.
func TestTexts(t *testing.T) {
	for _, s := range texts() {
		word, quoted := lexer.Word(s), lexer.Quote(s)
		wantSamples(t, []sample{
			{term(s), word, 0}, {in(s, term("a")), word + ":a", 0}, {in(s, term(s)), word + ":" + word, 0},
			{phrase(s, 0), quoted, 0}, {in(s, phrase(s, 7)), word + ":" + quoted + "~7", 0},
			{fuzzy(s, 2), word + "~2", 0}, {in(s, fuzzy(s, 1)), word + ":" + word + "~1", 0},
			{span(within(s), without(s)), "[" + word + " TO " + word + "}", 0}, {in(s, span(without(s), open())), word + ":{" + word + " TO *]", 0},
			{in(s, has()), word + ":*", 0}, {boost(2, term(s)), word + "^2", 1}, {list(0, "-+", term(s), in(s, a)), "-" + word + " +" + word + ":a", 0},
			{or(term(s), term(s)), word + " OR " + word, 0},
		})
		for _, n := range []api.Node{prefix(s), in(s, prefix(s)), wild("?" + lettersOf(s)), in(s, wild(lettersOf(s)+"?*")), wild("*" + lettersOf(s))} {
			wantGood(t, n)
			holdParsed(t, n)
		}
	}
}

// lettersOf is the canonical pattern of a text's letters.
func lettersOf(s string) string {
	return strings.NewReplacer("*", `\*`, "?", `\?`, `\`, `\\`).Replace(s)
}

// P15.1: prefixes, whose letters are those of a pattern.
func TestPrefixes(t *testing.T) {
	for _, s := range texts() {
		text, err := printer.Print(prefix(s))
		if err != nil {
			t.Fatal(err)
		}
		tokens, _, err := lexer.Scan(text)
		if err != nil || len(tokens) != 2 || tokens[0].Kind != api.LexPattern || tokens[0].Text != lettersOf(s)+"*" {
			t.Fatalf("the prefix %q is printed as %q, which is %v, %v", s, text, tokens, err)
		}
	}
}
