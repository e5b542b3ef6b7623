package bind_test

import (
	"fmt"
	"math/big"
	"reflect"
	"regexp"
	"strconv"
	"strings"
	"testing"

	"concord/api"
	"concord/bind"
	"concord/tokens"
)

// alike tells whether two queries are the same in every field, by going over both at once without calling itself.
func alike(a, b api.Query) bool {
	left, right := []api.Query{a}, []api.Query{b}
	for len(left) > 0 {
		x, y := left[len(left)-1], right[len(right)-1]
		left, right = left[:len(left)-1], right[:len(right)-1]
		if len(x.Kids) != len(y.Kids) || !reflect.DeepEqual(bare(x), bare(y)) {
			return false
		}
		left, right = append(left, x.Kids...), append(right, y.Kids...)
	}
	return true
}

// bare is a query without its kids, an empty list being none.
func bare(q api.Query) api.Query {
	q.Kids = nil
	if len(q.Terms) == 0 {
		q.Terms = nil
	}
	if len(q.Offs) == 0 {
		q.Offs = nil
	}
	if len(q.Occur) == 0 {
		q.Occur = nil
	}
	return q
}

// modelSize is the number of nodes of a query, counted without calling itself.
func modelSize(q api.Query) int {
	nodes := []api.Query{q}
	for i := 0; i < len(nodes); i++ {
		nodes = append(nodes, nodes[i].Kids...)
	}
	return len(nodes)
}

// hasFields says what each kind has, by the chapter's table: F is Field, T Text, t Terms and Offs, N N, W Weight, E its ends, O Occur, k Kids.
var hasFields = []string{"", "", "", "F", "FTW", "FtNW", "FT", "FT", "FTN", "FE", "kON", "k", "k", "kW", "kW"}

// modelGood tells whether a query is good over so many fields.
func modelGood(q api.Query, fields int) bool {
	if q.Kind < 1 || q.Kind > 14 {
		return false
	}
	kept := api.Query{Kind: q.Kind}
	for _, part := range hasFields[q.Kind] {
		switch part {
		case 'F':
			kept.Field = q.Field
			if q.Field < 0 || q.Field > fields-1 {
				return false
			}
		case 'T':
			kept.Text = q.Text
		case 't':
			kept.Terms, kept.Offs = q.Terms, q.Offs
		case 'N':
			kept.N = q.N
		case 'W':
			kept.Weight = q.Weight
		case 'E':
			kept.Lo, kept.Hi = q.Lo, q.Hi
		case 'O':
			kept.Occur = q.Occur
		case 'k':
			kept.Kids = q.Kids
		}
	}
	if len(kept.Kids) != len(q.Kids) || !alike(bare(kept), bare(q)) || !modelAsked(q) {
		return false
	}
	for _, kid := range q.Kids {
		if !modelGood(kid, fields) {
			return false
		}
	}
	return true
}

// patterns are the texts that are patterns: no escape without a byte behind it.
var patterns = regexp.MustCompile(`^(?s:[^\\]|\\.)*$`)

// modelAsked tells whether what is asked of the fields of a kind holds.
func modelAsked(q api.Query) bool {
	numbered := q.N >= 0 && q.N < 1000000000
	switch q.Kind {
	case api.QPhrase:
		for _, off := range q.Offs {
			if off < 0 || off >= 2147483647 {
				return false
			}
		}
		return len(q.Terms) >= 1 && len(q.Terms) == len(q.Offs) && numbered
	case api.QWild:
		return patterns.MatchString(runes(q.Text))
	case api.QFuzzy:
		return q.N == 0 || q.N == 1 || q.N == 2
	case api.QSpan:
		return (!q.Lo.Open || !q.Lo.In && q.Lo.Text == "") && (!q.Hi.Open || !q.Hi.In && q.Hi.Text == "")
	case api.QList:
		for _, occur := range q.Occur {
			if occur != 0 && occur != 1 && occur != 2 {
				return false
			}
		}
		return len(q.Kids) >= 1 && len(q.Kids) == len(q.Occur) && numbered
	case api.QMax:
		return len(q.Kids) >= 1
	case api.QNot, api.QBoost, api.QConst:
		return len(q.Kids) == 1
	}
	return true
}

// runes is a text with a rune for each byte, for regular expressions go by runes.
func runes(text string) string {
	var out strings.Builder
	for _, c := range []byte(text) {
		out.WriteRune(rune(c))
	}
	return out.String()
}

// modelPlain tells whether no multi-term leaf is in a query.
func modelPlain(q api.Query) bool {
	plain := q.Kind < api.QPrefix || q.Kind > api.QSpan
	for _, kid := range q.Kids {
		plain = plain && modelPlain(kid)
	}
	return plain
}

// modelText is the text of a good query.
func modelText(q api.Query) string {
	kids := ""
	for i, kid := range q.Kids {
		kids += " "
		if q.Kind == api.QList {
			kids += []string{"", "+", "-"}[q.Occur[i]]
		}
		kids += modelText(kid)
	}
	terms := ""
	for i, text := range q.Terms {
		terms += fmt.Sprintf(" %s@%d", modelQuoted(text), q.Offs[i])
	}
	return strings.NewReplacer(
		"{F}", strconv.Itoa(q.Field), "{N}", strconv.Itoa(q.N), "{W}", fmt.Sprint(q.Weight), "{T}", modelQuoted(q.Text), "{lo}", modelEnd(q.Lo), "{hi}", modelEnd(q.Hi), "{kids}", kids, "{terms}", terms,
	).Replace([]string{
		"", "none", "all", "(has {F})", "(term {F} {T} {W})", "(phrase {F} {N} {W}{terms})", "(prefix {F} {T})", "(wild {F} {T})", "(fuzzy {F} {N} {T})", "(span {F} {lo} {hi})",
		"(list {N}{kids})", "(max{kids})", "(not{kids})", "(boost {W}{kids})", "(const {W}{kids})",
	}[q.Kind])
}

func modelEnd(x api.Bound) string {
	if x.Open {
		return "*"
	}
	return map[bool]string{true: "=", false: "!"}[x.In] + modelQuoted(x.Text)
}

func modelQuoted(text string) string {
	out := `"`
	for _, c := range []byte(text) {
		if c < 32 || c > 126 || c == 34 || c == 92 {
			out += fmt.Sprintf(`\%02x`, c)
		} else {
			out += string(rune(c))
		}
	}
	return out + `"`
}

// modelBind is the query of a good tree.
func modelBind(s api.Schema, n api.Node) api.Query {
	if q, ok := modelNode(s, n); ok {
		return q
	}
	return none
}

// modelNode is the query of a node of a good tree; false, if it vanishes.
func modelNode(s api.Schema, n api.Node) (api.Query, bool) {
	if n.Kind == api.NAll {
		return all, true
	}
	if n.Kind < api.NAll {
		for i, f := range s.Fields {
			if n.Field == f.Name || n.Field == "" {
				return modelLeaf(f, i, n)
			}
		}
		return none, true
	}
	var kids []api.Query
	var occur []int
	for i, kid := range n.Kids {
		q, ok := modelNode(s, kid)
		if !ok {
			continue
		}
		kids = append(kids, q)
		switch n.Kind {
		case api.NList:
			occur = append(occur, n.Occur[i])
		case api.NAnd:
			occur = append(occur, 1)
		case api.NOr:
			occur = append(occur, 0)
		}
	}
	q := map[int]api.Query{
		api.NList: {Kind: api.QList, N: n.N}, api.NAnd: {Kind: api.QList}, api.NOr: {Kind: api.QList},
		api.NMax: {Kind: api.QMax}, api.NNot: {Kind: api.QNot}, api.NBoost: {Kind: api.QBoost, Weight: uint64(n.N)}, api.NConst: {Kind: api.QConst, Weight: uint64(n.N)},
	}[n.Kind]
	q.Kids, q.Occur = kids, occur
	return q, len(kids) > 0
}

// modelLeaf is the query of a leaf in the field of this number; false, if it vanishes.
func modelLeaf(f api.Field, i int, n api.Node) (api.Query, bool) {
	text, fold := f.Kind == api.KindText, func(s string) string { return s }
	if text && f.Fold {
		fold = tokens.Fold
	}
	switch {
	case n.Kind == api.NHas:
		return has(i), true
	case n.Kind == api.NSpan && f.Kind == api.KindNumber:
		lo, loFits := modelNumberEnd(n.Lo)
		hi, hiFits := modelNumberEnd(n.Hi)
		if !loFits || !hiFits {
			return none, true
		}
		return span(i, lo, hi), true
	case n.Kind == api.NSpan:
		n.Lo.Text, n.Hi.Text = fold(n.Lo.Text), fold(n.Hi.Text)
		return span(i, n.Lo, n.Hi), true
	case n.Kind == api.NTerm || n.Kind == api.NPhrase:
		return modelWords(f, i, n)
	case f.Kind == api.KindNumber:
		return none, true
	case n.Kind == api.NPrefix:
		return prefix(i, fold(n.Text)), true
	case n.Kind == api.NFuzzy:
		return fuzzy(i, n.N, fold(n.Text)), true
	}
	return wild(i, modelPattern(n.Text, fold)), true
}

func modelWords(f api.Field, i int, n api.Node) (api.Query, bool) {
	switch f.Kind {
	case api.KindKeyword:
		if len(n.Text) < 1 || len(n.Text) > 64 {
			return none, true
		}
		return term(i, n.Text, 0), true
	case api.KindNumber:
		number, ok := modelNumber(n.Text)
		if !ok {
			return none, true
		}
		return term(i, number, 0), true
	}
	found := tokens.Of(f, n.Text)
	q := phrase(i, n.N, 0, nil)
	for _, t := range found {
		q.Terms = append(q.Terms, t.Text)
		q.Offs = append(q.Offs, t.Pos-found[0].Pos)
	}
	if len(found) == 1 {
		return term(i, q.Terms[0], 0), true
	}
	return q, len(found) > 1
}

// numbers are the texts of decimal numbers, however great.
var numbers = regexp.MustCompile(`^-?[0-9]+$`)

// modelNumber is the term of a decimal number.
func modelNumber(text string) (string, bool) {
	if !numbers.MatchString(text) || strings.HasSuffix(text, "\n") {
		return "", false
	}
	value, _ := new(big.Int).SetString(text, 10)
	value.Add(value, new(big.Int).Lsh(big.NewInt(1), 63))
	if value.Sign() < 0 || value.BitLen() > 64 {
		return "", false
	}
	return string(value.FillBytes(make([]byte, 8))), true
}

func modelNumberEnd(x api.Bound) (api.Bound, bool) {
	if x.Open {
		return x, true
	}
	number, ok := modelNumber(x.Text)
	return api.Bound{In: x.In, Text: number}, ok
}

// modelPattern is the canonical form of a pattern whose runs of letters have been folded, one by one.
func modelPattern(p string, fold func(string) string) string {
	out, letters := "", ""
	end := func() {
		out += modelLetters(fold(letters))
		letters = ""
	}
	for i := 0; i < len(p); i++ {
		switch p[i] {
		case '*', '?':
			end()
			out += p[i : i+1]
		case '\\':
			i++
			letters += p[i : i+1]
		default:
			letters += p[i : i+1]
		}
	}
	end()
	return out
}

// modelLetters is the canonical pattern of a text's letters.
func modelLetters(text string) string {
	return strings.NewReplacer("*", `\*`, "?", `\?`, `\`, `\\`).Replace(text)
}

// holdQuery holds the calls over a query, good or not, against the model.
func holdQuery(t testing.TB, q api.Query) {
	t.Helper()
	for _, fields := range []int{-1, 0, 1, 2, 3, 4, api.MaxFields, 1 << 40} {
		good := modelGood(q, fields)
		wantCheck(t, q, fields, false, good)
		wantCheck(t, q, fields, true, good && modelPlain(q))
	}
	want := ""
	if modelGood(q, api.MaxFields) {
		want = modelText(q)
	}
	if got := bind.Text(q); got != want {
		t.Fatalf("Text(%s) is %q, want %q", brief(q), got, want)
	}
	if got := bind.Size(q); got != modelSize(q) {
		t.Fatalf("Size(%s) is %d, want %d", brief(q), got, modelSize(q))
	}
	if !bind.Same(q, copied(q)) {
		t.Fatalf("%s isn't the same as its copy", brief(q))
	}
}

// wantCheck says what Check answers.
func wantCheck(t testing.TB, q api.Query, fields int, plain, good bool) {
	t.Helper()
	want := api.ErrNode
	if good {
		want = nil
	}
	if got := bind.Check(q, fields, plain); got != want {
		t.Fatalf("Check(%s, %d, %v) is %v, want %v", brief(q), fields, plain, got, want)
	}
}
