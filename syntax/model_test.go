package syntax_test

import (
	"strings"

	"concord/api"
	"concord/lexer"
)

// grammarText is the chapter's grammar, as it stands there.
const grammarText = `
Query  = List End
List   = Clause { Clause }
Clause = Or / Plus Unary / Minus Unary
Or     = And { OR And }
And    = Max { AND Max }
Max    = Unary { Bar Unary }
Unary  = NOT Unary / Piece
Piece  = Atom { Boost / Const }
Atom   = Body / Word Colon Body / Star Colon Star
Body   = Leaf / Group
Group  = Open List Close [ Least ]
Leaf   = Word [ Edits ] / Pattern / Quoted [ Slop ] / Span
Span   = Square Side TO Side Last / Curly Side TO Side Last
Last   = Squared / Curled
Side   = Word / Quoted / Star
`

// kindNames are the kinds of tokens by the names that the grammar has for them.
var kindNames = map[string]int{
	"End": api.LexEnd, "Word": api.LexWord, "Pattern": api.LexPattern, "Quoted": api.LexQuoted, "AND": api.LexAnd, "OR": api.LexOr, "NOT": api.LexNot, "TO": api.LexTo,
	"Open": api.LexOpen, "Close": api.LexClose, "Square": api.LexSquare, "Squared": api.LexSquared, "Curly": api.LexCurly, "Curled": api.LexCurled,
	"Colon": api.LexColon, "Plus": api.LexPlus, "Minus": api.LexMinus, "Bar": api.LexBar, "Boost": api.LexBoost, "Const": api.LexConst, "Least": api.LexLeast,
}

// fits tells whether a token is one that the grammar names so.
func fits(name string, token api.Lex) bool {
	switch name {
	case "Star":
		return token.Kind == api.LexPattern && token.Text == "*"
	case "Edits":
		return token.Kind == api.LexTilde && (token.N == -1 || token.N == 1 || token.N == 2)
	case "Slop":
		return token.Kind == api.LexTilde && token.N >= 0
	}
	kind, ok := kindNames[name]
	if !ok {
		panic("no kind of token: " + name)
	}
	return token.Kind == kind
}

// expr is a piece of a grammar: a name ('n'), two one behind the other ('.'), one of several ('/'), any number of times ('{'), once or not at all ('[').
type expr struct {
	op   byte
	name string
	kids []int
}

// grammar is all pieces of a grammar by number, and the pieces that its parts are.
type grammar struct {
	exprs []expr
	parts map[string]int
}

// readGrammar reads a grammar, a part a line.
func readGrammar(text string) *grammar {
	g := &grammar{parts: map[string]int{}}
	for line := range strings.Lines(text) {
		words := strings.Fields(line)
		if len(words) == 0 {
			continue
		}
		e, rest := g.choice(words[2:])
		if words[1] != "=" || len(rest) > 0 {
			panic("no part of a grammar: " + line)
		}
		g.parts[words[0]] = e
	}
	return g
}

func (g *grammar) put(op byte, name string, kids ...int) int {
	g.exprs = append(g.exprs, expr{op, name, kids})
	return len(g.exprs) - 1
}

func (g *grammar) choice(words []string) (int, []string) {
	var kids []int
	for {
		e, rest := g.row(words)
		kids = append(kids, e)
		if len(rest) == 0 || rest[0] != "/" {
			return g.put('/', "", kids...), rest
		}
		words = rest[1:]
	}
}

func (g *grammar) row(words []string) (int, []string) {
	e, rest := g.item(words)
	if len(rest) == 0 || strings.Contains("/}]", rest[0]) {
		return e, rest
	}
	behind, rest := g.row(rest)
	return g.put('.', "", e, behind), rest
}

func (g *grammar) item(words []string) (int, []string) {
	switch w := words[0]; w {
	case "{", "[":
		e, rest := g.choice(words[1:])
		return g.put(w[0], "", e), rest[1:]
	default:
		return g.put('n', w), words[1:]
	}
}

// theGrammar is the grammar of query texts.
var theGrammar = readGrammar(grammarText)

// looker counts the ways in which a grammar derives the pieces of a row of tokens, and looks which rows begin one that it derives: of the row the tokens up to end. What it has found it keeps: ways by expr and two places, heads by expr and one place (0: not yet looked for; else one more than the answer).
type looker struct {
	*grammar
	row   []api.Lex
	end   int
	ways  []int16
	heads []int8
}

func newLooker(g *grammar, row []api.Lex) *looker {
	n := len(row) + 1
	return &looker{grammar: g, row: row, end: len(row), ways: make([]int16, len(g.exprs)*n*n), heads: make([]int8, len(g.exprs)*n)}
}

// cut looks at the tokens up to this place alone.
func (l *looker) cut(end int) {
	l.end = end
	clear(l.heads)
}

// count is the number of ways in which e derives the tokens from i up to j.
func (l *looker) count(e, i, j int) int {
	n := len(l.row) + 1
	kept := &l.ways[(e*n+i)*n+j]
	if *kept == 0 {
		*kept = int16(1 + l.find(e, i, j))
	}
	return int(*kept) - 1
}

func (l *looker) find(e, i, j int) int {
	x := l.exprs[e]
	switch x.op {
	case 'n':
		if part, ok := l.parts[x.name]; ok {
			return l.count(part, i, j)
		}
		if j == i+1 && fits(x.name, l.row[i]) {
			return 1
		}
		return 0
	case '/':
		sum := 0
		for _, kid := range x.kids {
			sum += l.count(kid, i, j)
		}
		return sum
	case '[':
		if i == j {
			return 1 + l.count(x.kids[0], i, j)
		}
		return l.count(x.kids[0], i, j)
	case '{':
		if i == j {
			return 1
		}
		return l.cuts(x.kids[0], e, i+1, i, j)
	default:
		return l.cuts(x.kids[0], x.kids[1], i, i, j)
	}
}

// cuts is the number of ways in which one e derives the tokens from i up to some place from least on, and the other those from there up to j.
func (l *looker) cuts(first, second, least, i, j int) int {
	sum := 0
	for k := least; k <= j; k++ {
		if ways := l.count(first, i, k); ways > 0 {
			sum += ways * l.count(second, k, j)
		}
	}
	return sum
}

// begins tells whether e derives the tokens from i on with some tokens behind them, or none. (Every part of the grammar derives some row.)
func (l *looker) begins(e, i int) bool {
	kept := &l.heads[e*(len(l.row)+1)+i]
	if *kept == 0 {
		*kept = 1
		if l.findHead(e, i) {
			*kept = 2
		}
	}
	return *kept == 2
}

func (l *looker) findHead(e, i int) bool {
	x := l.exprs[e]
	if i == l.end {
		return true
	}
	switch x.op {
	case 'n':
		if part, ok := l.parts[x.name]; ok {
			return l.begins(part, i)
		}
		return i == l.end-1 && fits(x.name, l.row[i])
	case '.':
		return l.begins(x.kids[0], i) || l.beginsBehind(x.kids[0], x.kids[1], i, i)
	case '{':
		return l.begins(x.kids[0], i) || l.beginsBehind(x.kids[0], e, i+1, i)
	}
	for _, kid := range x.kids {
		if l.begins(kid, i) {
			return true
		}
	}
	return false
}

func (l *looker) beginsBehind(first, second, least, i int) bool {
	for k := least; k <= l.end; k++ {
		if l.count(first, i, k) > 0 && l.begins(second, k) {
			return true
		}
	}
	return false
}

// piece is a part or a token of a derivation.
type piece struct {
	name  string
	token api.Lex
	kids  []*piece
}

// pieces is how e derives the tokens from i up to j, where it does.
func (l *looker) pieces(e, i, j int) []*piece {
	x := l.exprs[e]
	switch {
	case x.op == 'n':
		if part, ok := l.parts[x.name]; ok {
			return []*piece{{name: x.name, kids: l.pieces(part, i, j)}}
		}
		return []*piece{{name: x.name, token: l.row[i]}}
	case x.op == '/':
		for _, kid := range x.kids {
			if l.count(kid, i, j) > 0 {
				return l.pieces(kid, i, j)
			}
		}
		panic("nothing derives it")
	case x.op == '.':
		return l.cutPieces(x.kids[0], x.kids[1], i, i, j)
	case i == j:
		return nil
	case x.op == '[':
		return l.pieces(x.kids[0], i, j)
	default:
		return l.cutPieces(x.kids[0], e, i+1, i, j)
	}
}

func (l *looker) cutPieces(first, second, least, i, j int) []*piece {
	for k := least; k <= j; k++ {
		if l.count(first, i, k) > 0 && l.count(second, k, j) > 0 {
			return append(l.pieces(first, i, k), l.pieces(second, k, j)...)
		}
	}
	panic("nothing derives it")
}

// modelBegins tells whether a row begins a query text.
func modelBegins(row []api.Lex) bool {
	return newLooker(theGrammar, row).begins(theGrammar.parts["Query"], 0)
}

// modelFollow are the kinds of those of the tokens that can be put behind a row.
func modelFollow(row []api.Lex, tokens []api.Lex) []int {
	var can [api.LexLeast + 1]bool
	for _, token := range tokens {
		longer := append(append([]api.Lex{}, row...), token)
		can[token.Kind] = can[token.Kind] || modelBegins(longer)
	}
	var list []int
	for kind, ok := range can {
		if ok {
			list = append(list, kind)
		}
	}
	return list
}

// told is what the model tells of a text: its tokens; the place of its fault and the number of the token there (-1, if it isn't scanned), or -1 and -1, if it is a query text; in how many ways the grammar derives it, and how.
type told struct {
	tokens    []api.Lex
	place, at int
	ways      int
	list      *piece
}

// modelText tells of a text.
func modelText(q string) told {
	tokens, place, err := lexer.Scan(q)
	if err != nil {
		return told{place: place, at: -1}
	}
	query := theGrammar.parts["Query"]
	l := newLooker(theGrammar, tokens)
	out := told{tokens: tokens, place: -1, at: -1, ways: l.count(query, 0, len(tokens))}
	for i := range tokens {
		l.cut(i + 1)
		if !l.begins(query, 0) {
			out.place, out.at = tokens[i].At, i
			return out
		}
	}
	out.list = l.pieces(query, 0, len(tokens))[0]
	return out
}

// modelNest is the nest of a part.
func modelNest(p *piece) int {
	most := 0
	for _, kid := range p.kids {
		most = max(most, modelNest(kid))
	}
	switch p.name {
	case "Group":
		return most + 1
	case "Unary":
		return most + len(p.kids) - 1
	case "Piece":
		return modelNest(p.kids[0]) + len(p.kids) - 1
	}
	return most
}

// modelTree is the tree of a part that stands in this field.
func modelTree(p *piece, field string) api.Node {
	switch p.name {
	case "List":
		n := modelClauses(p, field)
		if len(n.Kids) == 1 && p.kids[0].kids[0].name == "Or" {
			return n.Kids[0]
		}
		return n
	case "Or":
		return modelJoined(p, field, api.NOr)
	case "And":
		return modelJoined(p, field, api.NAnd)
	case "Max":
		return modelJoined(p, field, api.NMax)
	case "Unary":
		if len(p.kids) == 2 {
			return api.Node{Kind: api.NNot, Kids: []api.Node{modelTree(p.kids[1], field)}}
		}
	case "Piece":
		return modelPiece(p, field)
	case "Atom":
		return modelAtom(p, field)
	case "Group":
		return modelGroup(p, field)
	case "Leaf":
		n := modelLeaf(p)
		n.Field = field
		return n
	}
	return modelTree(p.kids[0], field)
}

// modelClauses is a List as an NList, whatever it has.
func modelClauses(p *piece, field string) api.Node {
	n := api.Node{Kind: api.NList}
	for _, clause := range p.kids {
		last := clause.kids[len(clause.kids)-1]
		n.Kids = append(n.Kids, modelTree(last, field))
		n.Occur = append(n.Occur, map[string]int{"Or": api.Should, "Plus": api.Must, "Minus": api.MustNot}[clause.kids[0].name])
	}
	return n
}

// modelJoined is the tree of a part that has parts at its even places.
func modelJoined(p *piece, field string, kind int) api.Node {
	n := api.Node{Kind: kind}
	for i := 0; i < len(p.kids); i += 2 {
		n.Kids = append(n.Kids, modelTree(p.kids[i], field))
	}
	if len(n.Kids) == 1 {
		return n.Kids[0]
	}
	return n
}

func modelPiece(p *piece, field string) api.Node {
	n := modelTree(p.kids[0], field)
	for _, mark := range p.kids[1:] {
		kind := api.NBoost
		if mark.name == "Const" {
			kind = api.NConst
		}
		n = api.Node{Kind: kind, N: mark.token.N, Kids: []api.Node{n}}
	}
	return n
}

func modelAtom(p *piece, field string) api.Node {
	switch p.kids[0].name {
	case "Star":
		return api.Node{Kind: api.NAll}
	case "Word":
		return modelTree(p.kids[2], p.kids[0].token.Text)
	}
	return modelTree(p.kids[0], field)
}

func modelGroup(p *piece, field string) api.Node {
	if len(p.kids) == 3 || p.kids[3].token.N == 0 {
		return modelTree(p.kids[1], field)
	}
	n := modelClauses(p.kids[1], field)
	n.N = p.kids[3].token.N
	return n
}

func modelLeaf(p *piece) api.Node {
	text := p.kids[0].token.Text
	switch p.kids[0].name {
	case "Pattern":
		return modelPattern(text)
	case "Quoted":
		n := api.Node{Kind: api.NPhrase, Text: text}
		if len(p.kids) == 2 {
			n.N = p.kids[1].token.N
		}
		return n
	case "Span":
		return modelSpan(p.kids[0])
	}
	if len(p.kids) == 1 {
		return api.Node{Kind: api.NTerm, Text: text}
	}
	n := api.Node{Kind: api.NFuzzy, Text: text, N: p.kids[1].token.N}
	if n.N == -1 {
		n.N = 2
	}
	return n
}

func modelSpan(p *piece) api.Node {
	n := api.Node{Kind: api.NSpan}
	n.Lo = modelSide(p.kids[1], p.kids[0].name == "Square")
	n.Hi = modelSide(p.kids[3], p.kids[4].kids[0].name == "Squared")
	return n
}

func modelSide(p *piece, in bool) api.Bound {
	if p.kids[0].name == "Star" {
		return api.Bound{Open: true}
	}
	return api.Bound{In: in, Text: p.kids[0].token.Text}
}

// modelPattern is the leaf of a pattern, by its elements: stars, gaps, and letters with an = ahead of them.
func modelPattern(text string) api.Node {
	var elements []string
	for rest := text; rest != ""; rest = rest[1:] {
		switch {
		case rest[0] == '\\':
			rest = rest[1:]
			elements = append(elements, "="+rest[:1])
		case rest[0] == '*' || rest[0] == '?':
			elements = append(elements, rest[:1])
		default:
			elements = append(elements, "="+rest[:1])
		}
	}
	last := len(elements) - 1
	letters := ""
	for _, e := range elements[:last] {
		if len(e) == 1 {
			return api.Node{Kind: api.NWild, Text: text}
		}
		letters += e[1:]
	}
	switch {
	case elements[last] != "*":
		return api.Node{Kind: api.NWild, Text: text}
	case last == 0:
		return api.Node{Kind: api.NHas}
	}
	return api.Node{Kind: api.NPrefix, Text: letters}
}
