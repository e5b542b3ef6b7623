package syntax_test

import (
	"testing"

	"concord/api"
)

var a, b, c, d = term("a"), term("b"), term("c"), term("d")

// sample is a query text with its nest and its tree.
type sample struct {
	q    string
	nest int
	tree api.Node
}

// wantRows says the nests and the trees of texts.
func wantRows(t *testing.T, rows []sample) {
	t.Helper()
	for _, r := range rows {
		wantTree(t, r.q, r.nest, r.tree)
		holdText(t, r.q)
	}
}

// P14.1: the examples of the chapter.
func TestExamples(t *testing.T) {
	wantRows(t, []sample{
		{"a", 0, a}, {"a b", 0, list(0, "  ", a, b)}, {"+a -b c", 0, list(0, "+- ", a, b, c)}, {"+a", 0, list(0, "+", a)},
		{"a OR b AND c | d", 0, or(a, and(b, most(c, d)))}, {"a b OR c", 0, list(0, "  ", a, or(b, c))},
		{"NOT a^2", 2, not(boost(2, a))}, {"a^2^=3", 2, fixed(3, boost(2, a))},
		{"t:(a u:b (c))", 2, list(0, "   ", in("t", a), in("u", b), in("t", c))},
		{"*:*", 0, all()}, {"t:*", 0, in("t", has())}, {"*", 0, has()}, {"ab*", 0, prefix("ab")}, {"a*b", 0, wild("a*b")},
		{"ab~", 0, fuzzy("ab", 2)}, {"ab~2", 0, fuzzy("ab", 2)}, {`"a b"~3`, 0, phrase("a b", 3)}, {"[a TO *}", 0, span(within("a"), open())},
		{"((a))^2^3", 4, boost(3, boost(2, a))}, {"NOT NOT (a b^2)", 4, not(not(list(0, "  ", a, boost(2, b))))},
		{"(a b)@2", 1, list(2, "  ", a, b)}, {"((a b))@2", 2, list(2, " ", list(0, "  ", a, b))},
	})
	for q, place := range map[string]int{
		"": 0, "a OR": 4, "+a OR b": 3, "a~3": 1, `"a"~`: 3, "t:u:a": 3, "()": 1, "*:a": 2, "[a b]": 3, "a)": 1,
	} {
		wantFault(t, q, place)
	}
}

// P14.1: lists.
func TestLists(t *testing.T) {
	wantRows(t, []sample{
		{"-a", 0, list(0, "-", a)}, {"+ a", 0, list(0, "+", a)}, {"a +b", 0, list(0, " +", a, b)}, {"+a b", 0, list(0, "+ ", a, b)}, {"-a -b", 0, list(0, "--", a, b)},
		{"a b c d", 0, list(0, "    ", a, b, c, d)}, {"a-b", 0, term("a-b")}, {"a -b", 0, list(0, " -", a, b)},
		{"+NOT a", 1, list(0, "+", not(a))}, {"-NOT NOT a b", 2, list(0, "- ", not(not(a)), b)}, {"NOT a b", 1, list(0, "  ", not(a), b)},
		{"+a^2 -b^=3", 1, list(0, "+-", boost(2, a), fixed(3, b))}, {"+(a b) -(c d)", 1, list(0, "+-", list(0, "  ", a, b), list(0, "  ", c, d))},
		{"+(a OR b)", 1, list(0, "+", or(a, b))}, {"a OR b c AND d", 0, list(0, "  ", or(a, b), and(c, d))}, {"+a b | c -d", 0, list(0, "+ -", a, most(b, c), d)},
		{"+t:a -*:*", 0, list(0, "+-", in("t", a), all())}, {`a"b"c`, 0, list(0, "   ", a, phrase("b", 0), c)}, {"a(b)c", 1, list(0, "   ", a, b, c)},
		{"(+a)", 1, list(0, "+", a)}, {"((-a))", 2, list(0, "-", a)}, {"(+a) b", 1, list(0, "  ", list(0, "+", a), b)}, {"((a b) c)", 2, list(0, "  ", list(0, "  ", a, b), c)},
		{"a a", 0, list(0, "  ", a, a)}, {"+a^2 b", 1, list(0, "+ ", boost(2, a), b)}, {"a~1 b~", 0, list(0, "  ", fuzzy("a", 1), fuzzy("b", 2))},
	})
}

// P14.1: Or, And, Max, and what binds more than what.
func TestJoins(t *testing.T) {
	wantRows(t, []sample{
		{"a OR b", 0, or(a, b)}, {"a AND b", 0, and(a, b)}, {"a | b", 0, most(a, b)}, {"a|b", 0, most(a, b)},
		{"a OR b OR c", 0, or(a, b, c)}, {"a AND b AND c AND d", 0, and(a, b, c, d)}, {"a | b | c", 0, most(a, b, c)},
		{"a AND b OR c AND d", 0, or(and(a, b), and(c, d))}, {"a | b AND c | d", 0, and(most(a, b), most(c, d))}, {"a | b OR c", 0, or(most(a, b), c)}, {"a AND b | c", 0, and(a, most(b, c))},
		{"a | b OR c AND d", 0, or(most(a, b), and(c, d))}, {"a | b AND c OR d", 0, or(and(most(a, b), c), d)},
		{"(a OR b) AND c", 1, and(or(a, b), c)}, {"a AND (b OR c)", 1, and(a, or(b, c))}, {"(a OR b) OR c", 1, or(or(a, b), c)}, {"a OR (b OR c)", 1, or(a, or(b, c))},
		{"(a AND b) | c", 1, most(and(a, b), c)}, {"a | (b | c)", 1, most(a, most(b, c))}, {"(a | b) | c", 1, most(most(a, b), c)}, {"(a AND b) AND c", 1, and(and(a, b), c)},
		{"(a b) OR (+c)", 1, or(list(0, "  ", a, b), list(0, "+", c))}, {"NOT a OR NOT b", 1, or(not(a), not(b))}, {"NOT a AND b", 1, and(not(a), b)}, {"NOT a | b", 1, most(not(a), b)}, {"a | NOT b", 1, most(a, not(b))},
		{"a^2 OR b^=3", 1, or(boost(2, a), fixed(3, b))}, {"t:a OR b", 0, or(in("t", a), b)}, {`"a" | "b"~2`, 0, most(phrase("a", 0), phrase("b", 2))},
		{`a \OR b`, 0, list(0, "   ", a, term("OR"), b)}, {"a or b", 0, list(0, "   ", a, term("or"), b)},
	})
}

// P14.1: NOT, boosts and constants.
func TestMarks(t *testing.T) {
	wantRows(t, []sample{
		{"NOT a", 1, not(a)}, {"NOT NOT NOT a", 3, not(not(not(a)))}, {"NOT (a)", 2, not(a)}, {"NOT (NOT (a))", 4, not(not(a))}, {"(NOT a)^2", 3, boost(2, not(a))}, {"NOT a^=2", 2, not(fixed(2, a))},
		{"a^0", 1, boost(0, a)}, {"a^=0", 1, fixed(0, a)}, {"a^999999999^=999999999", 2, fixed(999999999, boost(999999999, a))}, {"a^1^2^3", 3, boost(3, boost(2, boost(1, a)))},
		{"a^=1^2^=3^4", 4, boost(4, fixed(3, boost(2, fixed(1, a))))}, {"a ^2", 1, boost(2, a)}, {"a^2b", 1, list(0, "  ", boost(2, a), b)}, {"a^007", 1, boost(7, a)},
		{"(a b)^2", 2, boost(2, list(0, "  ", a, b))}, {"(a^2)^3", 3, boost(3, boost(2, a))}, {"(a^1 b^2^3)^4", 4, boost(4, list(0, "  ", boost(1, a), boost(3, boost(2, b))))},
		{"t:a^2", 1, boost(2, in("t", a))}, {"t:(a)^2", 2, boost(2, in("t", a))}, {"*:*^2", 1, boost(2, all())}, {"*^2", 1, boost(2, has())}, {"t:*^=2", 1, fixed(2, in("t", has()))}, {"a*^2", 1, boost(2, prefix("a"))},
		{"a~^2", 1, boost(2, fuzzy("a", 2))}, {"a~1^2", 1, boost(2, fuzzy("a", 1))}, {`"a"^2`, 1, boost(2, phrase("a", 0))}, {`"a"~4^2`, 1, boost(2, phrase("a", 4))}, {"[a TO b]^2", 1, boost(2, span(within("a"), within("b")))},
		{"a^1 (b)", 1, list(0, "  ", boost(1, a), b)}, {"a^1^2 (b)", 2, list(0, "  ", boost(2, boost(1, a)), b)}, {"NOT a (b^3)", 2, list(0, "  ", not(a), boost(3, b))},
		{"NOT a OR b^1^1 (c)", 2, list(0, "  ", or(not(a), boost(1, boost(1, b))), c)}, {"NOT a^2 NOT NOT b", 2, list(0, "  ", not(boost(2, a)), not(not(b)))},
		{"NOT (a NOT b)", 3, not(list(0, "  ", a, not(b)))}, {"NOT (NOT a b)^2 c", 4, list(0, "  ", not(boost(2, list(0, "  ", not(a), b))), c)},
	})
}

// P14.1: groups, with and without a least.
func TestGroups(t *testing.T) {
	wantRows(t, []sample{
		{"(a)", 1, a}, {"((a))", 2, a}, {"(a b)", 1, list(0, "  ", a, b)}, {"(a)(b)", 1, list(0, "  ", a, b)}, {"(a)((b))", 2, list(0, "  ", a, b)}, {"((a)) (b)", 2, list(0, "  ", a, b)},
		{"(a)@0", 1, a}, {"(a b)@0", 1, list(0, "  ", a, b)}, {"(+a)@0", 1, list(0, "+", a)}, {"(a b)@000", 1, list(0, "  ", a, b)},
		{"(a)@1", 1, list(1, " ", a)}, {"(+a)@1", 1, list(1, "+", a)}, {"(-a)@1", 1, list(1, "-", a)}, {"(a)@7", 1, list(7, " ", a)}, {"(a b c)@2", 1, list(2, "   ", a, b, c)}, {"(+a b -c)@01", 1, list(1, "+ -", a, b, c)},
		{"(a)@999999999", 1, list(999999999, " ", a)}, {"(a OR b)@1", 1, list(1, " ", or(a, b))}, {"(a OR b c)@2", 1, list(2, "  ", or(a, b), c)}, {"(NOT a)@1", 2, list(1, " ", not(a))},
		{"((a)@1)@2", 2, list(2, " ", list(1, " ", a))}, {"((a b)@1 c)@2", 2, list(2, "  ", list(1, "  ", a, b), c)}, {"((a))@3", 2, list(3, " ", a)}, {"((+a))@3", 2, list(3, " ", list(0, "+", a))}, {"((a)@2)", 2, list(2, " ", a)}, {"((a)@2)@0", 2, list(2, " ", a)},
		{"(a b)@2^3", 2, boost(3, list(2, "  ", a, b))}, {"(a b)@0^3", 2, boost(3, list(0, "  ", a, b))}, {"(a b) @2 ^3 ^=4", 3, fixed(4, boost(3, list(2, "  ", a, b)))},
		{"(a b)@2 c", 1, list(0, "  ", list(2, "  ", a, b), c)}, {"(a b)@2 OR c", 1, or(list(2, "  ", a, b), c)}, {"+(a b)@2", 1, list(0, "+", list(2, "  ", a, b))}, {"NOT (a b)@2", 2, not(list(2, "  ", a, b))}, {"t:(a b)@2", 1, list(2, "  ", in("t", a), in("t", b))},
		{"(*:*)@1", 1, list(1, " ", all())}, {"(a^2)@1", 2, list(1, " ", boost(2, a))},
	})
}

// P14.1: fields on words, on groups, and on groups within groups.
func TestFields(t *testing.T) {
	wantRows(t, []sample{
		{"t:a", 0, in("t", a)}, {"t : a", 0, in("t", a)}, {"t:(a)", 1, in("t", a)}, {"t:((a))", 2, in("t", a)}, {"t:(u:a)", 1, in("u", a)}, {"t:(u:(a))", 2, in("u", a)}, {"t:(u:(v:a))", 2, in("v", a)},
		{"t:(a u:(b v:c d) *)", 2, list(0, "   ", in("t", a), list(0, "   ", in("u", b), in("v", c), in("u", d)), in("t", has()))},
		{"t:(a (u:b c)) d", 2, list(0, "  ", list(0, "  ", in("t", a), list(0, "  ", in("u", b), in("t", c))), d)}, {"t:a b", 0, list(0, "  ", in("t", a), b)}, {"t:(a) b", 1, list(0, "  ", in("t", a), b)}, {"a t:b u:c d", 0, list(0, "    ", a, in("t", b), in("u", c), d)},
		{"t:a~", 0, in("t", fuzzy("a", 2))}, {"t:a~1", 0, in("t", fuzzy("a", 1))}, {"t:a*", 0, in("t", prefix("a"))}, {"t:a?", 0, in("t", wild("a?"))}, {"t:*", 0, in("t", has())}, {`t:"a b"`, 0, in("t", phrase("a b", 0))}, {`t:"a"~2`, 0, in("t", phrase("a", 2))},
		{"t:[a TO b]", 0, in("t", span(within("a"), within("b")))}, {"t:{* TO b}", 0, in("t", span(open(), without("b")))}, {"t:(*:*)", 1, all()}, {"t:(*:* a)", 1, list(0, "  ", all(), in("t", a))}, {"t:(*)", 1, in("t", has())},
		{"t:(+a -b)", 1, list(0, "+-", in("t", a), in("t", b))}, {"t:(a OR b AND c | NOT d)", 2, or(in("t", a), and(in("t", b), most(in("t", c), not(in("t", d)))))}, {"t:(a^2)^=3", 3, fixed(3, boost(2, in("t", a)))}, {"NOT t:a", 1, not(in("t", a))},
		{`\AND:a`, 0, in("AND", a)}, {`\*:a`, 0, in("*", a)}, {`\*:\*`, 0, in("*", term("*"))}, {`\*:*`, 0, in("*", has())}, {`a\:b:c`, 0, in("a:b", c)}, {`\ :\ `, 0, in(" ", term(" "))}, {"7:8", 0, in("7", term("8"))}, {"t:t", 0, in("t", term("t"))},
		{"t:(t:a u:(t:b) a)@2", 2, list(2, "   ", in("t", a), in("t", b), in("t", a))}, {"t:(u:a b)@0", 1, list(0, "  ", in("u", a), in("t", b))},
		{"title:(a bc tag:(d))", 2, list(0, "   ", in("title", a), in("title", term("bc")), in("tag", d))},
	})
}

// P14.1: patterns.
func TestPatterns(t *testing.T) {
	wantRows(t, []sample{
		{"*", 0, has()}, {"a*", 0, prefix("a")}, {"abc*", 0, prefix("abc")}, {`\a*`, 0, prefix("a")}, {`\**`, 0, prefix("*")}, {`\?*`, 0, prefix("?")}, {`\\*`, 0, prefix(`\`)}, {`\*\*\\\?x*`, 0, prefix(`**\?x`)}, {`a\ b\:*`, 0, prefix("a b:")}, {`\+*`, 0, prefix("+")}, {`a\\*`, 0, prefix(`a\`)},
		{"AND*", 0, prefix("AND")}, {"é*", 0, prefix("é")}, {"\x00\xff*", 0, prefix("\x00\xff")},
		{"**", 0, wild("**")}, {"***", 0, wild("***")}, {"?", 0, wild("?")}, {"a?", 0, wild("a?")}, {"?a", 0, wild("?a")}, {"*a", 0, wild("*a")}, {"a*b", 0, wild("a*b")}, {"a*b*", 0, wild("a*b*")}, {"a**", 0, wild("a**")}, {"a?*", 0, wild("a?*")}, {"?*", 0, wild("?*")}, {"*?", 0, wild("*?")},
		{`a*\*`, 0, wild(`a*\*`)}, {`*\*`, 0, wild(`*\*`)}, {`?\*`, 0, wild(`?\*`)}, {`a?\**`, 0, wild(`a?\**`)}, {`\**\*`, 0, wild(`\**\*`)}, {`\a?\b`, 0, wild("a?b")}, {`a\\?`, 0, wild(`a\\?`)}, {`*\\`, 0, wild(`*\\`)}, {`\*?`, 0, wild(`\*?`)}, {`a*\:`, 0, wild("a*:")},
		{`\*`, 0, term("*")}, {`a\*`, 0, term("a*")}, {`\\`, 0, term(`\`)}, {"* *", 0, list(0, "  ", has(), has())}, {"*:* *", 0, list(0, "  ", all(), has())}, {"* *:*", 0, list(0, "  ", has(), all())},
	})
}

// P14.1: words with edits, and quoted texts with a slop.
func TestTildes(t *testing.T) {
	wantRows(t, []sample{
		{"a~", 0, fuzzy("a", 2)}, {"a~1", 0, fuzzy("a", 1)}, {"a~2", 0, fuzzy("a", 2)}, {"a~01", 0, fuzzy("a", 1)}, {"a ~ b", 0, list(0, "  ", fuzzy("a", 2), b)}, {"a~b", 0, list(0, "  ", fuzzy("a", 2), b)}, {`\*~`, 0, fuzzy("*", 2)}, {`\~~1`, 0, fuzzy("~", 1)},
		{`"a"`, 0, phrase("a", 0)}, {`""`, 0, phrase("", 0)}, {`"a b"~0`, 0, phrase("a b", 0)}, {`"a b"~1`, 0, phrase("a b", 1)}, {`"a b"~2`, 0, phrase("a b", 2)}, {`"a b" ~3`, 0, phrase("a b", 3)}, {`"a"~999999999`, 0, phrase("a", 999999999)}, {`"a \" * \\"`, 0, phrase(`a " * \`, 0)}, {`"*"`, 0, phrase("*", 0)}, {`"AND"`, 0, phrase("AND", 0)},
	})
	for q, place := range map[string]int{
		"a~0": 1, "a~3": 1, "a~999999999": 1, "a~~": 2, "a~1~": 3, `"a"~`: 3, `"a"~1~1`: 5, "~": 0, "~1": 0, "*~": 1, "*~1": 1, "a*~1": 2, "t:a~0": 3, "t:~": 2, "(a)~1": 3, "[a TO b]~1": 8, "a^2~1": 3, "*:*~1": 3, "a~1:b": 3, "t:*~": 3, `t:"a"~`: 5,
	} {
		wantFault(t, q, place)
		holdText(t, q)
	}
}

// P14.1: spans.
func TestSpans(t *testing.T) {
	sides := []struct {
		text string
		side api.Bound
	}{
		{"a", within("a")}, {`"b c"`, within("b c")}, {`""`, within("")}, {"*", open()}, {`\*`, within("*")}, {`"*"`, within("*")}, {`\TO`, within("TO")}, {"a-b", within("a-b")}, {"7", within("7")},
	}
	for _, first := range []string{"[", "{"} {
		for _, last := range []string{"]", "}"} {
			for _, lo := range sides {
				for _, hi := range sides {
					from, to := lo.side, hi.side
					from.In = from.In && first == "["
					to.In = to.In && last == "]"
					wantTree(t, first+lo.text+" TO "+hi.text+last, 0, span(from, to))
					wantTree(t, "t:"+first+" "+lo.text+"\tTO\n"+hi.text+" "+last+"^2", 1, boost(2, in("t", span(from, to))))
				}
			}
		}
	}
	for q, place := range map[string]int{
		"[": 1, "[a": 2, "[a TO": 5, "[a TO b": 7, "[a TO b)": 7, "[TO a]": 1, "[a TO]": 5, "[a b]": 3, "[a TO TO b]": 6, "[a* TO b]": 1, "[a TO b?]": 6, "[** TO b]": 1, "[t:a TO b]": 2, "[a~ TO b]": 2, "[a^2 TO b]": 2, "[(a) TO b]": 1, "[-a TO b]": 1, "[+a TO b]": 1, "[a TO -b]": 6, "[a AND b]": 3, "[a TO b c]": 8, "]": 0, "}": 0, "[a TO b]]": 8, "{a TO b": 7, "{]": 1, "[]": 1, "TO": 0, "a TO b": 2, "[[a TO b] TO c]": 1, "[a to b]": 3, `["a"~1 TO b]`: 4,
	} {
		wantFault(t, q, place)
		holdText(t, q)
	}
}

// P14.1: faults at each token of a text and at its end, those of layer 13 ahead of all others.
func TestFaults(t *testing.T) {
	for q, place := range map[string]int{
		"": 0, " ": 1, "\t\n": 2, "AND": 0, "OR": 0, "NOT": 3, "NOT ": 4, "(": 1, ")": 0, ":": 0, "|": 0, "+": 1, "-": 1, "^1": 0, "^=1": 0, "@1": 0, "a AND": 5, "a OR ": 5, "a |": 3, "AND a": 0, "OR a": 0, "| a": 0,
		"a AND OR b": 6, "a OR OR b": 5, "a | | b": 4, "a | AND b": 4, "a NOT": 5, "a NOT AND b": 6, "NOT +a": 4, "NOT -a": 4, "++a": 1, "+-a": 1, "+ +a": 2, "+a AND b": 3, "+a | b": 3, "-a OR b": 3, "-a^2 OR b": 5, "a OR +b": 5, "a AND -b": 6, "a | +b": 4, "a OR b AND": 10,
		"()": 1, "(a": 2, "(a))": 3, "((a)": 4, "a)": 1, "(a OR)": 5, "(+)": 2, "(NOT)": 4, "(a) @1 @2": 7, "(a)^2@1": 5, "(a)@1@1": 5, "a@1": 1, "a @1": 2, `"a"@1`: 3, "[a TO b]@1": 8, "*:*@1": 3, "t:a@1": 3, "@1(a)": 0, "(@1 a)": 1,
		"t:": 2, "t:u:a": 3, "t:u:(a)": 3, "t::a": 2, ":a": 0, "t:)": 2, "t:NOT a": 2, "t:+a": 2, "t:AND": 2, "t:TO": 2, `"t":a`: 3, "t*:a": 2, "?:a": 1, "(t):a": 3, "t~:a": 2, "t:^2": 2, "t^2:a": 3, "t:a:b": 3, "t:*:*": 3, "a:*:*": 3,
		"*:": 2, "*:a": 2, "*:a*": 2, "*:**": 2, "*:?": 2, "*:(a)": 2, "*:(*)": 2, `*:"*"`: 2, `*:\*`: 2, "*:*:*": 3, "**:*": 2, "*:[a TO b]": 2, "*::*": 2, "*:^2": 2, "*:NOT a": 2,
		"a ^": 2, "a) \"": 3, "( ^": 2, ")) a\\": 3, "AND ~1000000000": 4, "a b (c @": 7, "+a OR \"": 6,
	} {
		wantFault(t, q, place)
		holdText(t, q)
	}
}
