package printer_test

import (
	"math"
	"math/rand"
	"testing"

	"concord/api"
	"concord/printer"
)

// hasField says which fields each kind has, by the chapter's table: F is Field, T Text, N N, E its ends, O Occur, K Kids.
var hasField = []string{"", "FT", "FTN", "FT", "FT", "FTN", "FE", "F", "", "KON", "K", "K", "K", "K", "KN", "KN"}

// setters set one field to what isn't empty.
var setters = []struct {
	field rune
	set   func(n *api.Node)
}{
	{'F', func(n *api.Node) { n.Field = "t" }},
	{'F', func(n *api.Node) { n.Field = " " }},
	{'T', func(n *api.Node) { n.Text = "a" }},
	{'T', func(n *api.Node) { n.Text = "\x00" }},
	{'T', func(n *api.Node) { n.Text = "a?" }},
	{'N', func(n *api.Node) { n.N = 1 }},
	{'N', func(n *api.Node) { n.N = -1 }},
	{'N', func(n *api.Node) { n.N = api.MaxNumber }},
	{'N', func(n *api.Node) { n.N = math.MinInt }},
	{'N', func(n *api.Node) { n.N = 1 << 32 }},
	{'E', func(n *api.Node) { n.Lo.Open = true }},
	{'E', func(n *api.Node) { n.Lo.In = true }},
	{'E', func(n *api.Node) { n.Lo.Text = "a" }},
	{'E', func(n *api.Node) { n.Hi.Open = true }},
	{'E', func(n *api.Node) { n.Hi.In = true }},
	{'E', func(n *api.Node) { n.Hi.Text = "a" }},
	{'O', func(n *api.Node) { n.Occur = []int{api.Should} }},
	{'O', func(n *api.Node) { n.Occur = []int{api.Must, api.MustNot} }},
	{'O', func(n *api.Node) { n.Occur = make([]int, len(n.Kids)) }},
	{'K', func(n *api.Node) { n.Kids = []api.Node{a} }},
	{'K', func(n *api.Node) { n.Kids = []api.Node{a, b} }},
	{'K', func(n *api.Node) { n.Kids = []api.Node{{}} }},
}

// wantGood says that a tree is good, and holds the calls over it against the model.
func wantGood(t *testing.T, n api.Node) {
	t.Helper()
	if err := printer.Check(n); err != nil {
		t.Fatalf("Check(%v) is %v", n, err)
	}
	holdTree(t, n)
}

// wantRefused says that a tree isn't good, alone and within others, and holds the calls over it against the model.
func wantRefused(t *testing.T, n api.Node) {
	t.Helper()
	wantBad(t, n)
	holdTree(t, n)
	for _, wrap := range wraps() {
		wantBad(t, wrap(n))
	}
}

// P15.1: a good tree of every kind, and in every one each field that its kind doesn't have, set by itself.
func TestFieldsOfKinds(t *testing.T) {
	for kind, n := range goodOnes() {
		if kind == 0 {
			continue
		}
		wantGood(t, n)
		for _, s := range setters {
			m := copied(n)
			s.set(&m)
			if alike(m, n) {
				continue
			}
			own := false
			for _, f := range hasField[kind] {
				own = own || f == s.field
			}
			if own {
				holdTree(t, m)
			} else {
				wantRefused(t, m)
			}
		}
	}
}

// P15.1: lists that are empty are none.
func TestEmptyLists(t *testing.T) {
	for _, n := range goodOnes()[1:] {
		text, _ := printer.Print(n)
		if n.Kids == nil {
			n.Kids = make([]api.Node, 0, 3)
		}
		if n.Occur == nil {
			n.Occur = make([]int, 0, 3)
		}
		wantGood(t, n)
		if got, _ := printer.Print(n); got != text {
			t.Errorf("with empty lists it prints %q, with none %q", got, text)
		}
	}
}

// P15.1: kinds that there aren't, with what any kind may have.
func TestKinds(t *testing.T) {
	for _, kind := range []int{math.MinInt, -1 << 32, -256, -2, -1, 0, 16, 17, 18, 100, 255, 256, 257, 1<<32 + 1, 1<<32 + 8, math.MaxInt} {
		wantRefused(t, api.Node{Kind: kind})
		for _, n := range goodOnes() {
			n.Kind = kind
			wantRefused(t, n)
		}
	}
}

// P15.1: every kind with the fields of every other one.
func TestKindsChanged(t *testing.T) {
	good := 0
	for _, n := range goodOnes() {
		for kind := range 16 {
			m := copied(n)
			m.Kind = kind
			holdTree(t, m)
			if modelGood(m) {
				good++
			}
		}
	}
	if good < 15 || good == 16*16 {
		t.Errorf("%d of them are good", good)
	}
}

// P15.1: the bounds of N.
func TestNumbers(t *testing.T) {
	for _, n := range []int{0, 1, 2, 3, 998, api.MaxNumber - 1, api.MaxNumber} {
		for _, x := range []api.Node{phrase("", n), phrase("a", n), list(n, " ", a), list(n, "+ ", a, b), boost(n, a), fixed(n, a)} {
			wantGood(t, x)
		}
	}
	for _, n := range []int{math.MinInt, -1 << 32, -api.MaxNumber, -2, -1, api.MaxNumber + 1, 1 << 31, 1 << 32, 1<<32 + 1, math.MaxInt} {
		for _, x := range []api.Node{phrase("", n), phrase("a", n), list(n, " ", a), list(n, "+ ", a, b), boost(n, a), fixed(n, a), fuzzy("a", n)} {
			wantRefused(t, x)
		}
	}
	wantGood(t, fuzzy("a", 1))
	wantGood(t, fuzzy("a", 2))
	wantRefused(t, fuzzy("a", 0))
	wantRefused(t, fuzzy("a", 3))
	wantRefused(t, fuzzy("a", api.MaxNumber))
}

// P15.1: texts that must have a byte.
func TestEmptyTexts(t *testing.T) {
	wantGood(t, phrase("", 0))
	wantGood(t, span(without(""), within("")))
	for _, n := range []api.Node{term(""), prefix(""), wild(""), fuzzy("", 1)} {
		wantRefused(t, n)
		wantRefused(t, in("t", n))
	}
	for _, n := range goodOnes()[api.NTerm : api.NHas+1] {
		wantGood(t, in("", n))
		wantGood(t, in("t", n))
	}
}

// P15.1: how many kids each kind has.
func TestKidCounts(t *testing.T) {
	kids := []api.Node{a, b, c}
	for _, kind := range []int{api.NAnd, api.NOr, api.NMax} {
		wantRefused(t, api.Node{Kind: kind})
		wantRefused(t, api.Node{Kind: kind, Kids: []api.Node{}})
		for n := 1; n <= 3; n++ {
			wantGood(t, api.Node{Kind: kind, Kids: kids[:n]})
		}
	}
	for _, kind := range []int{api.NNot, api.NBoost, api.NConst} {
		wantGood(t, api.Node{Kind: kind, Kids: kids[:1]})
		for _, n := range []int{0, 2, 3} {
			wantRefused(t, api.Node{Kind: kind, Kids: kids[:n]})
		}
	}
}

// P15.1: Occur is as long as Kids, each of it one of three numbers.
func TestOccurs(t *testing.T) {
	kids := []api.Node{a, b, c}
	for _, least := range []int{0, 1, 3} {
		for n := range 4 {
			for m := range 6 {
				x := api.Node{Kind: api.NList, N: least, Kids: kids[:n], Occur: make([]int, m, 7)}
				if n > 0 && n == m {
					wantGood(t, x)
				} else {
					wantRefused(t, x)
				}
			}
		}
		for _, occur := range []int{math.MinInt, -2, -1, 0, 1, 2, 3, 4, 256, 1 << 32, math.MaxInt} {
			for at := range 3 {
				x := list(least, "+- ", a, b, c)
				x.Occur[at] = occur
				if occur >= api.Should && occur <= api.MustNot {
					wantGood(t, x)
				} else {
					wantRefused(t, x)
				}
			}
		}
	}
}

// P15.1: an end that is open has nothing beside that; every other one may have anything.
func TestEnds(t *testing.T) {
	var good, bad []api.Bound
	for _, text := range []string{"", "a", "*", "TO", " "} {
		for _, in := range []bool{false, true} {
			good = append(good, api.Bound{In: in, Text: text})
			if in || text != "" {
				bad = append(bad, api.Bound{Open: true, In: in, Text: text})
			}
		}
	}
	good = append(good, open())
	for _, x := range good {
		for _, y := range good {
			wantGood(t, span(x, y))
			wantGood(t, in("t", span(x, y)))
		}
		for _, y := range bad {
			wantRefused(t, span(x, y))
			wantRefused(t, span(y, x))
		}
	}
	wantRefused(t, span(bad[0], bad[0]))
}

// P15.1: the patterns of an NWild.
func TestWilds(t *testing.T) {
	for _, text := range wildTexts {
		wantGood(t, wild(text))
		wantGood(t, in("t", wild(text)))
	}
	for _, text := range []string{
		"", "a", "ab", "AND", "*", "a*", "ab*", " *", "+*", "é*", `\*`, `\?`, `\\`, `a\*b`, `\**`, `\?*`, `\\*`, `a\*\?\\*`,
		`\a?`, `\a*b`, `?\a`, `*\a`, `a\b*c`, `\ ?`, `\+?`, `?\-`, `\"*?`, "?\\\x00", "\\\xff**", `?\:`, `\?\a?`, `\\\a?`,
		`\`, `?\`, `a?\`, `*\`, `**\`, `*a\`, `?\\\`, `a\`, `\\\`,
	} {
		wantRefused(t, wild(text))
		wantRefused(t, in("t", wild(text)))
	}
}

// P15.1: all patterns of few bytes.
func TestShortPatterns(t *testing.T) {
	good := 0
	var grow func(text string, more int)
	grow = func(text string, more int) {
		if modelWild(text) {
			good++
		}
		if got := printer.Check(wild(text)) == nil; got != modelWild(text) {
			t.Fatalf("an NWild %q: %v", text, got)
		}
		for i := range len("a*?\\") * min(more, 1) {
			grow(text+"a*?\\"[i:i+1], more-1)
		}
	}
	grow("", 6)
	if good < 500 {
		t.Errorf("%d patterns are good", good)
	}
	for i := range 256 {
		holdTree(t, wild("?"+string([]byte{byte(i)})))
		holdTree(t, wild("?\\"+string([]byte{byte(i)})))
		holdTree(t, wild(string([]byte{byte(i)})+"*"))
		holdTree(t, wild("*"+string([]byte{byte(i)})))
	}
}

// P15.1: a bad node at any place of a good tree.
func TestBadInside(t *testing.T) {
	all := wraps()
	for _, bad := range []api.Node{{}, term(""), and(), not(a, b), wild("*"), boost(-1, a), {Kind: 16}, list(0, "", a), {Kind: api.NAll, N: 1}} {
		for i := range all {
			n := bad
			for j := range 3 * len(all) {
				n = all[(i+j*j)%len(all)](n)
			}
			wantBad(t, n)
		}
	}
	// A bad kid of a leaf, which has none, and one beside a good one.
	wantBad(t, api.Node{Kind: api.NTerm, Text: "a", Kids: []api.Node{{}}})
	wantBad(t, list(0, "  ", a, not(b, c)))
	wantBad(t, list(0, "  ", not(b, c), a))
}

// P15.1: many trees, good ones and ones with a field changed.
func TestManyTrees(t *testing.T) {
	dice := rand.New(rand.NewSource(151))
	good, bad := 0, 0
	for range 20000 {
		n := madeTree(dice, 20)
		wantGood(t, n)
		n = spoilt(dice, n)
		holdTree(t, n)
		if modelGood(n) {
			good++
		} else {
			bad++
		}
	}
	if good < 1000 || bad < 1000 {
		t.Errorf("of the trees with a field changed %d are good and %d are not", good, bad)
	}
}
