package printer_test

import (
	"math/rand"
	"strings"
	"testing"

	"concord/api"
	"concord/printer"
	"concord/syntax"
)

// P15.1: wide trees.
func TestWideTrees(t *testing.T) {
	const n = 50000
	kids := make([]api.Node, n)
	for i := range kids {
		kids[i] = a
	}
	for _, x := range []struct {
		tree               api.Node
		first, between, to string
		nest               int
	}{
		{list(0, strings.Repeat(" ", n), kids...), "a", " a", "", 0},
		{list(0, strings.Repeat("+", n), kids...), "+a", " +a", "", 0},
		{list(0, strings.Repeat("-", n), kids...), "-a", " -a", "", 0},
		{list(7, strings.Repeat(" ", n), kids...), "(a", " a", ")@7", 1},
		{or(kids...), "a", " OR a", "", 0},
		{and(kids...), "a", " AND a", "", 0},
		{most(kids...), "a", " | a", "", 0},
	} {
		wantPrint(t, x.tree, x.tree, x.first+strings.Repeat(x.between, n-1)+x.to, x.nest)
		if got := printer.Size(x.tree); got != n+1 {
			t.Errorf("Size is %d", got)
		}
		spoiltOne := copied(x.tree)
		spoiltOne.Kids[n-1].Text = ""
		wantDeepBad(t, spoiltOne)
		if printer.Same(x.tree, spoiltOne) {
			t.Error("trees that differ in their last kid are the same")
		}
	}
}

// tree is a tree of so many wraps around another one.
func (y outer) tree(n int, x api.Node) api.Node {
	for range n {
		x = y.wrap(x)
	}
	return x
}

// text is the printed form of so many wraps, one at least, around an a, and its nest.
func (y outer) text(n int) (string, int) {
	if y.level >= y.least {
		return strings.Repeat(y.first, n) + "a" + strings.Repeat(y.last, n), n * y.by
	}
	return strings.Repeat(y.first+"(", n-1) + y.first + "a" + y.last + strings.Repeat(")"+y.last, n-1), n*y.by + n - 1
}

// wantDeepBad says that a tree isn't good, without telling it.
func wantDeepBad(t *testing.T, n api.Node) {
	t.Helper()
	text, err := printer.Print(n)
	if printer.Check(n) != api.ErrNode || text != "" || err != api.ErrNode {
		t.Fatal("a bad node in a great tree isn't found")
	}
}

// holdDeep holds the calls over a tree of so many wraps.
func holdDeep(t *testing.T, y outer, n int) {
	t.Helper()
	x := y.tree(n, a)
	text, nest := y.text(n)
	if got, err := printer.Print(x); got != text || err != nil {
		t.Fatalf("Print is %.100q, %v, want %.100q", got, err, text)
	}
	if got, err := printer.Nest(x); got != nest || err != nil {
		t.Fatalf("the nest of %.100q is %d, %v, want %d", text, got, err, nest)
	}
	if got, err := printer.Canon(list(0, " ", or(x))); err != nil || !printer.Same(got, x) {
		t.Fatalf("Canon of %.100q: %v", text, err)
	}
	if got, want := printer.Size(x), 1+n*(printer.Size(y.wrap(a))-1); got != want {
		t.Fatalf("the size of %.100q is %d, want %d", text, got, want)
	}
	if printer.Same(x, y.tree(n, b)) {
		t.Fatalf("%.100q is the same with another leaf", text)
	}
	wantDeepBad(t, y.tree(n, term("")))
}

// P15.1: trees nested far above MaxNest.
func TestDeepTrees(t *testing.T) {
	for i, y := range outers {
		holdDeep(t, y, 2000)
		if i%6 == 5 {
			holdDeep(t, y, 1<<16-3)
		}
	}
	idle := not(a)
	for range 1<<16 - 3 {
		idle = list(0, " ", idle)
	}
	if got, err := printer.Print(idle); got != "NOT a" || err != nil {
		t.Fatalf("Print is %.100q, %v", got, err)
	}
	if got, err := printer.Nest(idle); got != 1 || err != nil {
		t.Fatalf("the nest is %d, %v", got, err)
	}
}

// P15.2: nests up to MaxNest and above it: Parse reads the one, and refuses the other.
func TestNests(t *testing.T) {
	reached, above := 0, 0
	for _, y := range outers {
		nest := 0
		for n := 1; nest < api.MaxNest+3; n++ {
			x := y.tree(n, a)
			text, deeper := y.text(n)
			nest = deeper
			wantPrint(t, x, x, text, nest)
			holdParsed(t, x)
			switch nest {
			case api.MaxNest:
				reached++
				if _, _, err := syntax.Parse(text); err != nil {
					t.Fatalf("Parse(%q): %v", text, err)
				}
			case api.MaxNest + 1:
				above++
				if _, _, err := syntax.Parse(text); err != api.ErrDeep {
					t.Fatalf("Parse(%q): %v", text, err)
				}
			}
		}
	}
	if reached < 10 || above < 10 {
		t.Errorf("%d trees are at MaxNest, %d one above it", reached, above)
	}
}

// P15.2: trees of mixed nests, at MaxNest and one above it.
func TestMixedNests(t *testing.T) {
	dice := rand.New(rand.NewSource(153))
	for range 60 {
		x := madeTree(dice, 5)
		for {
			x = outers[dice.Intn(len(outers))].wrap(x)
			if nest, err := printer.Nest(x); err != nil || nest >= api.MaxNest-3 {
				break
			}
		}
		for nest, _ := printer.Nest(x); nest <= api.MaxNest+3; nest, _ = printer.Nest(x) {
			holdTree(t, x)
			holdParsed(t, x)
			x = not(x)
		}
		holdParsed(t, x)
	}
}
