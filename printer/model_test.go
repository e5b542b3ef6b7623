package printer_test

import (
	"strconv"
	"strings"
	"testing"

	"concord/api"
	"concord/lexer"
	"concord/printer"
)

// alike tells whether two trees are the same in every field.
func alike(a, b api.Node) bool {
	if !bareAlike(a, b) || len(a.Kids) != len(b.Kids) {
		return false
	}
	for i := range a.Kids {
		if !alike(a.Kids[i], b.Kids[i]) {
			return false
		}
	}
	return true
}

// bareAlike tells whether two nodes are the same in every field but their Kids.
func bareAlike(a, b api.Node) bool {
	if len(a.Occur) != len(b.Occur) {
		return false
	}
	for i := range a.Occur {
		if a.Occur[i] != b.Occur[i] {
			return false
		}
	}
	return a.Kind == b.Kind && a.Field == b.Field && a.Text == b.Text && a.N == b.N && a.Lo == b.Lo && a.Hi == b.Hi
}

// modelKept is a node with nothing but the fields that its kind has, by the chapter's table; false for what is no kind.
func modelKept(n api.Node) (api.Node, bool) {
	out := api.Node{Kind: n.Kind}
	fields, ok := map[int]string{
		api.NTerm: "Field Text", api.NPhrase: "Field Text N", api.NPrefix: "Field Text", api.NWild: "Field Text", api.NFuzzy: "Field Text N", api.NSpan: "Field Lo Hi", api.NHas: "Field", api.NAll: "",
		api.NList: "Kids Occur N", api.NAnd: "Kids", api.NOr: "Kids", api.NMax: "Kids", api.NNot: "Kids", api.NBoost: "Kids N", api.NConst: "Kids N",
	}[n.Kind]
	for _, field := range strings.Fields(fields) {
		switch field {
		case "Field":
			out.Field = n.Field
		case "Text":
			out.Text = n.Text
		case "N":
			out.N = n.N
		case "Lo":
			out.Lo = n.Lo
		case "Hi":
			out.Hi = n.Hi
		case "Occur":
			out.Occur = n.Occur
		case "Kids":
			out.Kids = n.Kids
		}
	}
	return out, ok
}

// modelElements are a pattern's elements, each as it is written with an escape ahead of every letter; false for no pattern.
func modelElements(p string) ([]string, bool) {
	var out []string
	for p != "" {
		switch {
		case p[0] == '*' || p[0] == '?':
			out, p = append(out, p[:1]), p[1:]
		case p[0] != '\\':
			out, p = append(out, `\`+p[:1]), p[1:]
		case len(p) == 1:
			return nil, false
		default:
			out, p = append(out, p[:2]), p[2:]
		}
	}
	return out, true
}

// modelWild tells whether a text may be that of an NWild.
func modelWild(p string) bool {
	elements, ok := modelElements(p)
	canonical, shape := "", ""
	for _, e := range elements {
		if len(e) == 1 {
			canonical += e
			shape += e
			continue
		}
		shape += "l"
		if strings.Contains(`*?\`, e[1:]) {
			canonical += `\`
		}
		canonical += e[1:]
	}
	if !ok || p != canonical {
		return false
	}
	if strings.Contains(shape, "?") || strings.Count(shape, "*") > 1 {
		return true
	}
	return strings.Contains(shape, "*l")
}

// modelGood tells whether a tree is good.
func modelGood(n api.Node) bool {
	kept, ok := modelKept(n)
	if !ok || !alike(n, kept) || !modelAsked(n) {
		return false
	}
	for _, kid := range n.Kids {
		if !modelGood(kid) {
			return false
		}
	}
	return true
}

// modelAsked tells whether what is asked of the fields of a kind holds.
func modelAsked(n api.Node) bool {
	numbered := 0 <= n.N && n.N <= 999999999
	switch n.Kind {
	case api.NTerm, api.NPrefix:
		return len(n.Text) >= 1
	case api.NPhrase:
		return numbered
	case api.NWild:
		return modelWild(n.Text)
	case api.NFuzzy:
		return len(n.Text) >= 1 && (n.N == 1 || n.N == 2)
	case api.NSpan:
		return (!n.Lo.Open || !n.Lo.In && n.Lo.Text == "") && (!n.Hi.Open || !n.Hi.In && n.Hi.Text == "")
	case api.NList:
		for _, occur := range n.Occur {
			if occur < 0 || occur > 2 {
				return false
			}
		}
		return len(n.Kids) >= 1 && len(n.Occur) == len(n.Kids) && numbered
	case api.NAnd, api.NOr, api.NMax:
		return len(n.Kids) >= 1
	case api.NNot:
		return len(n.Kids) == 1
	case api.NBoost, api.NConst:
		return len(n.Kids) == 1 && numbered
	}
	return true
}

// modelCanon is the canonical form of a good tree, from the leaves up.
func modelCanon(n api.Node) api.Node {
	n = copied(n)
	for i, kid := range n.Kids {
		n.Kids[i] = modelCanon(kid)
	}
	if len(n.Kids) == 1 {
		switch {
		case n.Kind == api.NAnd, n.Kind == api.NOr, n.Kind == api.NMax:
			return n.Kids[0]
		case n.Kind == api.NList && n.N == 0 && n.Occur[0] == api.Should:
			return n.Kids[0]
		}
	}
	return n
}

// modelLevel is the level of a good tree.
func modelLevel(n api.Node) int {
	if n.Kind == api.NList && n.N > 0 {
		return 6
	}
	level, ok := map[int]int{api.NList: 0, api.NOr: 1, api.NAnd: 2, api.NMax: 3, api.NNot: 4, api.NBoost: 5, api.NConst: 5}[n.Kind]
	if !ok {
		return 6
	}
	return level
}

// printed is a text and its nest, which is reckoned from the tree, not from the text.
type printed struct {
	text string
	nest int
}

// modelPrint is the chapter's print(x, m).
func modelPrint(x api.Node, m int) printed {
	p := modelForm(x)
	if modelLevel(x) < m {
		return printed{"(" + p.text + ")", p.nest + 1}
	}
	return p
}

// modelJoin are texts with one between two of them, and the greatest of their nests.
func modelJoin(between string, list []printed) printed {
	var texts []string
	nest := 0
	for _, p := range list {
		texts = append(texts, p.text)
		nest = max(nest, p.nest)
	}
	return printed{strings.Join(texts, between), nest}
}

// modelForm is the chapter's form of x.
func modelForm(x api.Node) printed {
	switch x.Kind {
	case api.NList:
		return modelList(x)
	case api.NOr, api.NAnd, api.NMax:
		between := map[int]string{api.NOr: " OR ", api.NAnd: " AND ", api.NMax: " | "}[x.Kind]
		var kids []printed
		for _, kid := range x.Kids {
			kids = append(kids, modelPrint(kid, modelLevel(x)+1))
		}
		return modelJoin(between, kids)
	case api.NNot:
		kid := modelPrint(x.Kids[0], 4)
		return printed{"NOT " + kid.text, kid.nest + 1}
	case api.NBoost:
		kid := modelPrint(x.Kids[0], 5)
		return printed{kid.text + "^" + strconv.Itoa(x.N), kid.nest + 1}
	case api.NConst:
		kid := modelPrint(x.Kids[0], 5)
		return printed{kid.text + "^=" + strconv.Itoa(x.N), kid.nest + 1}
	}
	return printed{text: modelLeaf(x)}
}

func modelList(x api.Node) printed {
	var clauses []printed
	for i, kid := range x.Kids {
		clause := modelPrint(kid, []int{1, 4, 4}[x.Occur[i]])
		clause.text = []string{"", "+", "-"}[x.Occur[i]] + clause.text
		clauses = append(clauses, clause)
	}
	p := modelJoin(" ", clauses)
	if x.N > 0 {
		return printed{"(" + p.text + ")@" + strconv.Itoa(x.N), p.nest + 1}
	}
	return p
}

func modelLeaf(x api.Node) string {
	field := ""
	if x.Field != "" {
		field = lexer.Word(x.Field) + ":"
	}
	switch x.Kind {
	case api.NTerm:
		return field + lexer.Word(x.Text)
	case api.NPhrase:
		if x.N == 0 {
			return field + lexer.Quote(x.Text)
		}
		return field + lexer.Quote(x.Text) + "~" + strconv.Itoa(x.N)
	case api.NPrefix:
		escaped := strings.NewReplacer("*", `\*`, "?", `\?`, `\`, `\\`).Replace(x.Text)
		return field + lexer.Pattern(escaped+"*")
	case api.NWild:
		return field + lexer.Pattern(x.Text)
	case api.NFuzzy:
		return field + lexer.Word(x.Text) + "~" + strconv.Itoa(x.N)
	case api.NSpan:
		first := map[bool]string{true: "[", false: "{"}[x.Lo.In || x.Lo.Open]
		last := map[bool]string{true: "]", false: "}"}[x.Hi.In || x.Hi.Open]
		return field + first + modelSide(x.Lo) + " TO " + modelSide(x.Hi) + last
	case api.NHas:
		return field + "*"
	}
	return "*:*"
}

func modelSide(end api.Bound) string {
	if end.Open {
		return "*"
	}
	if end.Text == "" {
		return `""`
	}
	return lexer.Word(end.Text)
}

// modelSize is the number of nodes of a tree, counted without calling itself.
func modelSize(n api.Node) int {
	nodes := []api.Node{n}
	for i := 0; i < len(nodes); i++ {
		nodes = append(nodes, nodes[i].Kids...)
	}
	return len(nodes)
}

// holdTree holds all calls over a tree, good or not, against the model.
func holdTree(t testing.TB, n api.Node) {
	t.Helper()
	if modelGood(n) {
		canon := modelCanon(n)
		p := modelPrint(canon, 0)
		wantPrint(t, n, canon, p.text, p.nest)
	} else {
		wantBad(t, n)
	}
	if got := printer.Size(n); got != modelSize(n) {
		t.Fatalf("Size(%v) is %d, want %d", n, got, modelSize(n))
	}
	if !printer.Same(n, copied(n)) {
		t.Fatalf("%v isn't the same as its copy", n)
	}
}
