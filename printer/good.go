package printer

import "concord/api"

// What is asked of the Text of a node.
const (
	noText = iota
	anyText
	someText
	wildText
)

// How many Kids a node has.
const (
	noKids = iota
	oneKid
	someKids
)

// ask is what is asked of the nodes of a kind. The fields that it doesn't name they don't have.
type ask struct {
	field, ends, occur bool
	text, kids         int8
	least, most        int32 // of N
}

// asks are the asks of all kinds.
var asks = [...]ask{
	api.NTerm:   {field: true, text: someText},
	api.NPhrase: {field: true, text: anyText, most: api.MaxNumber},
	api.NPrefix: {field: true, text: someText},
	api.NWild:   {field: true, text: wildText},
	api.NFuzzy:  {field: true, text: someText, least: 1, most: 2},
	api.NSpan:   {field: true, ends: true},
	api.NHas:    {field: true},
	api.NAll:    {},
	api.NList:   {kids: someKids, occur: true, most: api.MaxNumber},
	api.NAnd:    {kids: someKids},
	api.NOr:     {kids: someKids},
	api.NMax:    {kids: someKids},
	api.NNot:    {kids: oneKid},
	api.NBoost:  {kids: oneKid, most: api.MaxNumber},
	api.NConst:  {kids: oneKid, most: api.MaxNumber},
}

// isGood tells whether a tree is good.
func isGood(n api.Node) bool {
	if n.Kind < api.NTerm || n.Kind > api.NConst || !asks[n.Kind].isMet(n) {
		return false
	}
	for _, kid := range n.Kids {
		if !isGood(kid) {
			return false
		}
	}
	return true
}

// isMet tells whether a node has what is asked, whatever its kids are.
func (a ask) isMet(n api.Node) bool {
	if n.Field != "" && !a.field {
		return false
	}
	if n.N < int(a.least) || n.N > int(a.most) {
		return false
	}
	return a.takesText(n.Text) && a.takesEnd(n.Lo) && a.takesEnd(n.Hi) && a.takesKids(len(n.Kids)) && a.takesOccur(n.Occur, len(n.Kids))
}

func (a ask) takesText(text string) bool {
	switch a.text {
	case noText:
		return text == ""
	case someText:
		return text != ""
	case wildText:
		return isWild(text)
	}
	return true
}

func (a ask) takesEnd(end api.Bound) bool {
	if !a.ends {
		return end == api.Bound{}
	}
	return !end.Open || end == api.Bound{Open: true}
}

func (a ask) takesKids(n int) bool {
	switch a.kids {
	case noKids:
		return n == 0
	case oneKid:
		return n == 1
	}
	return n > 0
}

func (a ask) takesOccur(list []int, kids int) bool {
	if !a.occur {
		return len(list) == 0
	}
	for _, occur := range list {
		if occur != api.Should && occur != api.Must && occur != api.MustNot {
			return false
		}
	}
	return len(list) == kids
}

// isWild tells whether a text is a pattern in canonical form that would be read as no other leaf: letters alone would be a word, letters with one star behind them a prefix, a lone star a field that is there.
func isWild(text string) bool {
	gap, stars, letterBehind := false, 0, false
	for i := 0; i < len(text); i++ {
		switch text[i] {
		case '?':
			gap = true
		case '*':
			stars++
		case '\\':
			i++
			if i == len(text) || !needsEscape(text[i]) {
				return false
			}
			fallthrough
		default:
			letterBehind = stars > 0
		}
	}
	return gap || stars > 1 || letterBehind
}

// needsEscape tells whether a byte is a letter of a pattern by an escape alone.
func needsEscape(b byte) bool {
	return b == '*' || b == '?' || b == '\\'
}
