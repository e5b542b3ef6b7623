package printer_test

import (
	"math/rand"
	"slices"
	"strings"
	"testing"

	"concord/api"
	"concord/lexer"
	"concord/printer"
)

// The nodes of trees, by their kinds.
func term(text string) api.Node          { return api.Node{Kind: api.NTerm, Text: text} }
func phrase(text string, n int) api.Node { return api.Node{Kind: api.NPhrase, Text: text, N: n} }
func prefix(text string) api.Node        { return api.Node{Kind: api.NPrefix, Text: text} }
func wild(text string) api.Node          { return api.Node{Kind: api.NWild, Text: text} }
func fuzzy(text string, n int) api.Node  { return api.Node{Kind: api.NFuzzy, Text: text, N: n} }
func span(lo, hi api.Bound) api.Node     { return api.Node{Kind: api.NSpan, Lo: lo, Hi: hi} }
func has() api.Node                      { return api.Node{Kind: api.NHas} }
func all() api.Node                      { return api.Node{Kind: api.NAll} }
func and(kids ...api.Node) api.Node      { return api.Node{Kind: api.NAnd, Kids: kids} }
func or(kids ...api.Node) api.Node       { return api.Node{Kind: api.NOr, Kids: kids} }
func most(kids ...api.Node) api.Node     { return api.Node{Kind: api.NMax, Kids: kids} }
func not(kids ...api.Node) api.Node      { return api.Node{Kind: api.NNot, Kids: kids} }
func boost(n int, kids ...api.Node) api.Node {
	return api.Node{Kind: api.NBoost, N: n, Kids: kids}
}
func fixed(n int, kids ...api.Node) api.Node {
	return api.Node{Kind: api.NConst, N: n, Kids: kids}
}

// in is a leaf in a field.
func in(field string, leaf api.Node) api.Node {
	leaf.Field = field
	return leaf
}

// list is an NList with a least and, one sign a kid (blank, + or -), its kids.
func list(n int, signs string, kids ...api.Node) api.Node {
	out := api.Node{Kind: api.NList, N: n, Kids: kids}
	for _, sign := range signs {
		out.Occur = append(out.Occur, map[rune]int{' ': api.Should, '+': api.Must, '-': api.MustNot}[sign])
	}
	return out
}

// The ends of spans.
func within(text string) api.Bound  { return api.Bound{In: true, Text: text} }
func without(text string) api.Bound { return api.Bound{Text: text} }
func open() api.Bound               { return api.Bound{Open: true} }

var a, b, c = term("a"), term("b"), term("c")

// goodOnes has a good tree of each kind, by its number; the kind 0 has none.
func goodOnes() []api.Node {
	return []api.Node{
		{}, a, phrase("a b", 3), prefix("a"), wild("a?"), fuzzy("a", 1), span(within("a"), without("b")), has(), all(),
		list(2, " +-", a, b, c), and(a, b), or(a, b), most(a, b), not(a), boost(2, a), fixed(3, a),
	}
}

// copied is a tree in memory of its own.
func copied(n api.Node) api.Node {
	n.Field, n.Text = strings.Clone(n.Field), strings.Clone(n.Text)
	n.Lo.Text, n.Hi.Text = strings.Clone(n.Lo.Text), strings.Clone(n.Hi.Text)
	n.Occur, n.Kids = slices.Clone(n.Occur), slices.Clone(n.Kids)
	for i, kid := range n.Kids {
		n.Kids[i] = copied(kid)
	}
	return n
}

// outer is a node that others are put into: its level, at least which level has no brackets in it, what stands ahead and behind, and what the nest grows by.
type outer struct {
	level, least int
	first, last  string
	by           int
	wrap         func(x api.Node) api.Node
}

var outers = []outer{
	{0, 1, "a ", "", 0, func(x api.Node) api.Node { return list(0, "  ", a, x) }},
	{0, 1, "", " a", 0, func(x api.Node) api.Node { return list(0, "  ", x, a) }},
	{0, 1, "+a ", " -c", 0, func(x api.Node) api.Node { return list(0, "+ -", a, x, c) }},
	{0, 4, "+", "", 0, func(x api.Node) api.Node { return list(0, "+", x) }},
	{0, 4, "-", "", 0, func(x api.Node) api.Node { return list(0, "-", x) }},
	{0, 4, "a +", " c", 0, func(x api.Node) api.Node { return list(0, " + ", a, x, c) }},
	{0, 4, "-", " -a", 0, func(x api.Node) api.Node { return list(0, "--", x, a) }},
	{6, 1, "(", ")@1", 1, func(x api.Node) api.Node { return list(1, " ", x) }},
	{6, 1, "(a ", ")@7", 1, func(x api.Node) api.Node { return list(7, "  ", a, x) }},
	{6, 4, "(+", " a)@2", 1, func(x api.Node) api.Node { return list(2, "+ ", x, a) }},
	{6, 4, "(-", ")@2", 1, func(x api.Node) api.Node { return list(2, "-", x) }},
	{1, 2, "", " OR a", 0, func(x api.Node) api.Node { return or(x, a) }},
	{1, 2, "a OR ", " OR c", 0, func(x api.Node) api.Node { return or(a, x, c) }},
	{2, 3, "", " AND a", 0, func(x api.Node) api.Node { return and(x, a) }},
	{2, 3, "a AND ", " AND c", 0, func(x api.Node) api.Node { return and(a, x, c) }},
	{3, 4, "", " | a", 0, func(x api.Node) api.Node { return most(x, a) }},
	{3, 4, "a | ", " | c", 0, func(x api.Node) api.Node { return most(a, x, c) }},
	{4, 4, "NOT ", "", 1, func(x api.Node) api.Node { return not(x) }},
	{5, 5, "", "^4", 1, func(x api.Node) api.Node { return boost(4, x) }},
	{5, 5, "", "^=0", 1, func(x api.Node) api.Node { return fixed(0, x) }},
}

// idles are ways to put a tree into nodes that mean nothing beside it.
var idles = []func(x api.Node) api.Node{
	func(x api.Node) api.Node { return and(x) },
	func(x api.Node) api.Node { return or(x) },
	func(x api.Node) api.Node { return most(x) },
	func(x api.Node) api.Node { return list(0, " ", x) },
	func(x api.Node) api.Node { return and(or(most(list(0, " ", list(0, " ", x))))) },
}

// wraps are all ways to put a tree into another one.
func wraps() []func(x api.Node) api.Node {
	out := slices.Clone(idles)
	for _, y := range outers {
		out = append(out, y.wrap)
	}
	return out
}

// oddTexts are texts that the language of queries has a meaning for, or nearly so.
var oddTexts = []string{
	"a", "b", "ab", "AND", "OR", "NOT", "TO", "and", "ANDY", "TO ", "+", "-", "+a", "-a", "a+", "a-b", "--", "*", "?", `\`, "a*", "a?b", `a\`, `\a`, `\*`, "**", " ", "a b", " a", "a ", "\t", "\n\r", ":", "t:a", "(", ")", "(a)", "[", "]", "{", "}", "|", "^", "^2", "^=3", "~", "~1", "@", "@2", `"`, `"a"`, `\"`, "=", "7", "007", "é", "\x00", "\xff", "a\x00", "NOT a", "[a TO b]", "*:*",
}

// wildTexts are patterns that an NWild may have.
var wildTexts = []string{
	"?", "??", "a?", "?a", "a?b", "**", "***", "a**", "**a", "*a", "*a*", "a*b", "a*b*", "?*", "*?", "a?*", `\*?`, `?\*`, `*\*`, `a*\*`, `\**\*`, `\***`, `*\\`, `\\*\\`, `\\?`, `?\?`, `\??`, `\?*a`, "* ", " ?", "+*a", "-?", "*+", "?-", `*"`, "(*)", "[?]", "*:*", "?^2", "~?", "@*|", "AND?", "*OR", "é?", "\x00*\xff", "*\n",
}

// maker makes good trees out of dice.
type maker struct {
	dice *rand.Rand
	room int
}

// madeTree is a good tree of about so many nodes at most.
func madeTree(dice *rand.Rand, room int) api.Node {
	m := maker{dice, dice.Intn(room) + 1}
	return m.tree()
}

func (m *maker) pick(texts []string) string {
	return texts[m.dice.Intn(len(texts))]
}

// text is a text, odd or of any bytes, of one byte at least.
func (m *maker) text() string {
	if m.dice.Intn(4) > 0 {
		return m.pick(oddTexts)
	}
	out := make([]byte, 1+m.dice.Intn(4))
	m.dice.Read(out)
	return string(out)
}

// number is a number that may stand in a query text.
func (m *maker) number() int {
	return []int{0, 1, 2, 3, 10, m.dice.Intn(api.MaxNumber), api.MaxNumber}[m.dice.Intn(7)]
}

func (m *maker) end() api.Bound {
	switch m.dice.Intn(5) {
	case 0:
		return open()
	case 1:
		return api.Bound{In: m.dice.Intn(2) == 0}
	}
	return api.Bound{In: m.dice.Intn(2) == 0, Text: m.text()}
}

func (m *maker) tree() api.Node {
	m.room--
	if m.room <= 0 || m.dice.Intn(4) == 0 {
		return m.leaf()
	}
	switch m.dice.Intn(8) {
	case 0, 1:
		return m.list()
	case 2:
		return and(m.kids()...)
	case 3:
		return or(m.kids()...)
	case 4:
		return most(m.kids()...)
	case 5:
		return not(m.tree())
	case 6:
		return boost(m.number(), m.tree())
	}
	return fixed(m.number(), m.tree())
}

func (m *maker) kids() []api.Node {
	var out []api.Node
	for range 1 + m.dice.Intn(3) {
		out = append(out, m.tree())
	}
	return out
}

func (m *maker) list() api.Node {
	out := api.Node{Kind: api.NList, Kids: m.kids()}
	for range out.Kids {
		out.Occur = append(out.Occur, []int{api.Should, api.Should, api.Must, api.MustNot}[m.dice.Intn(4)])
	}
	if m.dice.Intn(3) == 0 {
		out.N = m.number()
	}
	return out
}

func (m *maker) leaf() api.Node {
	leaf := m.bare()
	if leaf.Kind != api.NAll && m.dice.Intn(2) == 0 {
		leaf.Field = m.text()
	}
	return leaf
}

func (m *maker) bare() api.Node {
	switch m.dice.Intn(9) {
	case 0:
		return phrase(m.pick([]string{"", m.text()}), m.number())
	case 1:
		return prefix(m.text())
	case 2:
		return wild(m.pick(wildTexts))
	case 3:
		return fuzzy(m.text(), 1+m.dice.Intn(2))
	case 4, 5:
		return span(m.end(), m.end())
	case 6:
		return has()
	case 7:
		return all()
	}
	return term(m.text())
}

// spoilt is a tree with one field of one of its nodes changed, to what may be good or not.
func spoilt(dice *rand.Rand, n api.Node) api.Node {
	n = copied(n)
	at := &n
	for len(at.Kids) > 0 && dice.Intn(3) > 0 {
		at = &at.Kids[dice.Intn(len(at.Kids))]
	}
	m := maker{dice, 2}
	switch dice.Intn(9) {
	case 0:
		at.Kind = dice.Intn(19) - 1
	case 1:
		at.Field = m.pick([]string{"", "t"})
	case 2:
		at.Text = m.pick(append(oddTexts, ""))
	case 3:
		at.Text = m.pick(wildTexts)
	case 4:
		at.N = []int{-1, 0, 1, 2, 3, api.MaxNumber, api.MaxNumber + 1}[dice.Intn(7)]
	case 5:
		at.Lo = api.Bound{Open: dice.Intn(2) == 0, In: dice.Intn(2) == 0, Text: m.pick([]string{"", "a"})}
	case 6:
		at.Hi = api.Bound{Open: dice.Intn(2) == 0, In: dice.Intn(2) == 0, Text: m.pick([]string{"", "a"})}
	case 7:
		at.Occur = append(at.Occur, dice.Intn(5)-1)[dice.Intn(2):]
	case 8:
		at.Kids = append(at.Kids, a)[dice.Intn(2):]
	}
	return n
}

// madeQuery is a query text of about so many parts at most, with more brackets and blanks than it needs.
func madeQuery(dice *rand.Rand, room int) string {
	m := maker{dice, dice.Intn(room) + 1}
	return m.blanks() + m.listText() + m.blanks()
}

func (m *maker) blanks() string {
	return []string{"", "", "", " ", "\t ", "\n", "\r"}[m.dice.Intn(7)]
}

// some puts together texts, one at least, with a mark and blanks between two.
func (m *maker) some(mark string, one func() string) string {
	out := one()
	for m.room > 0 && m.dice.Intn(3) == 0 {
		out += " " + m.blanks() + mark + " " + m.blanks() + one()
	}
	return out
}

func (m *maker) listText() string {
	return m.some("", func() string {
		switch m.dice.Intn(5) {
		case 0:
			return "+" + m.blanks() + m.unaryText()
		case 1:
			return "-" + m.blanks() + m.unaryText()
		}
		return m.some("OR", func() string {
			return m.some("AND", func() string {
				return m.some("|", m.unaryText)
			})
		})
	})
}

func (m *maker) unaryText() string {
	if m.dice.Intn(6) == 0 {
		return "NOT " + m.blanks() + m.unaryText()
	}
	out := m.atomText()
	for m.dice.Intn(5) == 0 {
		out += m.blanks() + m.pick([]string{"^0", "^1", "^007", "^=0", "^=3", "^999999999"})
	}
	return out
}

func (m *maker) atomText() string {
	m.room--
	if m.dice.Intn(12) == 0 {
		return "*" + m.blanks() + ":" + m.blanks() + "*"
	}
	field := ""
	if m.dice.Intn(3) == 0 {
		field = lexer.Word(m.text()) + m.blanks() + ":" + m.blanks()
	}
	if m.room > 0 && m.dice.Intn(2) == 0 {
		return field + "(" + m.blanks() + m.listText() + m.blanks() + ")" + m.pick([]string{"", "", "", "@0", " @1", "@002", "@999999999"})
	}
	return field + m.leafText()
}

func (m *maker) leafText() string {
	switch m.dice.Intn(6) {
	case 0:
		return m.wordText() + m.blanks() + m.pick([]string{"~", "~1", "~2", "~02"})
	case 1:
		return m.pick([]string{"*", "a*", `\a*`, `\**`, "**", "?", "a?b", `\a?`, `*\b`, `\?*`, `\+*`, `\-?`, lexer.Pattern(m.pick(wildTexts))})
	case 2:
		return lexer.Quote(m.text()) + m.blanks() + m.pick([]string{"", "", "~0", "~3", "~999999999"})
	case 3:
		return m.pick([]string{"[", "{"}) + m.sideText() + " TO " + m.sideText() + m.pick([]string{"]", "}"})
	}
	return m.wordText()
}

func (m *maker) wordText() string {
	return m.pick([]string{"a", "b", `\c`, `A\ND`, lexer.Word(m.text())})
}

func (m *maker) sideText() string {
	return m.blanks() + m.pick([]string{"*", `""`, lexer.Quote(m.text()), m.wordText()}) + m.blanks()
}

// wantPrint says that a tree is good, and what it comes to: its canonical form, its printed form and its nest.
func wantPrint(t testing.TB, n api.Node, canon api.Node, text string, nest int) {
	t.Helper()
	if err := printer.Check(n); err != nil {
		t.Fatalf("Check(%v) is %v, want none", n, err)
	}
	if got, err := printer.Canon(n); !alike(got, canon) || err != nil {
		t.Fatalf("Canon(%v) is %v, %v, want %v", n, got, err, canon)
	}
	if got, err := printer.Print(n); got != text || err != nil {
		t.Fatalf("Print(%v) is %q, %v, want %q", n, got, err, text)
	}
	if got, err := printer.Nest(n); got != nest || err != nil {
		t.Fatalf("Nest(%v) is %d, %v, want %d", n, got, err, nest)
	}
}

// wantBad says that a tree isn't good.
func wantBad(t testing.TB, n api.Node) {
	t.Helper()
	if err := printer.Check(n); err != api.ErrNode {
		t.Fatalf("Check(%v) is %v, want ErrNode", n, err)
	}
	if got, err := printer.Canon(n); !alike(got, api.Node{}) || err != api.ErrNode {
		t.Fatalf("Canon(%v) is %v, %v, want ErrNode", n, got, err)
	}
	if got, err := printer.Print(n); got != "" || err != api.ErrNode {
		t.Fatalf("Print(%v) is %q, %v, want ErrNode", n, got, err)
	}
	if got, err := printer.Nest(n); got != 0 || err != api.ErrNode {
		t.Fatalf("Nest(%v) is %d, %v, want ErrNode", n, got, err)
	}
}
