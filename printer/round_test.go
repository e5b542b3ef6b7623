package printer_test

import (
	"fmt"
	"math/rand"
	"testing"

	"concord/api"
	"concord/printer"
	"concord/syntax"
)

// holdParsed holds the printed form of a good tree against layer 14 (P15.2), and the printed form of its canonical form against it (P15.4).
func holdParsed(t testing.TB, n api.Node) {
	t.Helper()
	text, err := printer.Print(n)
	canon, _ := printer.Canon(n)
	nest, _ := printer.Nest(n)
	if err != nil {
		t.Fatalf("Print(%v): %v", n, err)
	}
	if got, at, err := syntax.Check(text); got != nest || at != 0 || err != nil {
		t.Fatalf("the nest of %.300q is %d, %d, %v, of its tree %d", text, got, at, err, nest)
	}
	tree, at, err := syntax.Parse(text)
	switch {
	case nest > api.MaxNest && (err != api.ErrDeep || at != 0):
		t.Fatalf("Parse of %.300q, of the nest %d: %v", text, nest, err)
	case nest <= api.MaxNest && (err != nil || !alike(tree, canon)):
		t.Fatalf("Parse of %.300q is %v, %v, want %v", text, tree, err, canon)
	}
	if got, err := printer.Canon(canon); !alike(got, canon) || err != nil {
		t.Fatalf("Canon of a canonical form %v is %v, %v", canon, got, err)
	}
	if got, err := printer.Print(canon); got != text || err != nil {
		t.Fatalf("Print of the canonical form is %.300q, %v, want %.300q", got, err, text)
	}
}

// P15.2 and P15.4: many good trees.
func TestPrintedAndParsed(t *testing.T) {
	dice := rand.New(rand.NewSource(152))
	for range 20000 {
		holdParsed(t, madeTree(dice, 40))
	}
	for range 200 {
		holdParsed(t, madeTree(dice, 3000))
	}
}

// holdQuery holds the tree of a query text against the printer (P15.3); false, if it has none.
func holdQuery(t testing.TB, q string) bool {
	t.Helper()
	tree, _, err := syntax.Parse(q)
	if err != nil {
		return false
	}
	nest, _, _ := syntax.Check(q)
	if err := printer.Check(tree); err != nil {
		t.Fatalf("the tree of %q isn't good: %v", q, tree)
	}
	if canon, err := printer.Canon(tree); err != nil || !alike(canon, tree) {
		t.Fatalf("the canonical form of the tree of %q is %v, %v, want %v", q, canon, err, tree)
	}
	text, err := printer.Print(tree)
	if err != nil {
		t.Fatalf("the tree of %q: %v", q, err)
	}
	if got, err := printer.Nest(tree); err != nil || got > nest {
		t.Fatalf("the nest of the tree of %q is %d, %v, that of the text %d", q, got, err, nest)
	}
	again, _, err := syntax.Parse(text)
	if err != nil || !alike(again, tree) || !printer.Same(again, tree) {
		t.Fatalf("%q is printed as %q, which is %v, %v, want %v", q, text, again, err, tree)
	}
	if got, err := printer.Print(again); err != nil || got != text {
		t.Fatalf("%q is printed as %q, and that as %q, %v", q, text, got, err)
	}
	holdTree(t, tree)
	return true
}

// P15.3: query texts of every part of the grammar, and what they are printed as.
func TestQueryRows(t *testing.T) {
	for q, want := range map[string]string{
		"a": "a", " a ": "a", "(a)": "a", "((a))": "a", "(a)@0": "a", "(a)@1": "(a)@1", "((a))@1": "(a)@1", "((a)@1)@1": "((a)@1)@1", "((a b))@2": "((a b))@2", "((a b)@0)@2": "((a b))@2", "(+a)": "+a", "(+a) b": "(+a) b", "+(+a)": "+(+a)", "+(a)": "+a",
		"a   b\tc": "a b c", "(a b) c": "(a b) c", "a OR(b)OR(c OR d)": "a OR b OR (c OR d)", "(a AND b) OR c": "a AND b OR c", "(a OR b) AND c": "(a OR b) AND c", "a|b": "a | b", "NOT(a)": "NOT a", "NOT(NOT a)": "NOT NOT a", "NOT(a b)": "NOT (a b)", "(NOT a)^2": "(NOT a)^2", "NOT a^2": "NOT a^2", "NOT(a^2)": "NOT a^2", "((a^2))^3": "a^2^3", "a^007": "a^7", "a^=00": "a^=0",
		"t:a": "t:a", "t:(a b)": "t:a t:b", "t:(a u:b (c))": "t:a u:b t:c", "t:(a)@2": "(t:a)@2", "t:(*:* *)": "*:* t:*", "t:(+a -b)^2": "(+t:a -t:b)^2", "t : a": "t:a", `\t:\a`: "t:a", "* : *": "*:*", "*": "*",
		"a~": "a~2", "a~02": "a~2", "a~1": "a~1", `"a"~0`: `"a"`, `"a"~03`: `"a"~3`, `"\a"`: `"a"`, `"a\"b"`: `"a\"b"`, `""`: `""`, `\a*`: "a*", `\a?`: "a?", `\**`: `\**`, `a\*`: `a\*`, `\+a`: `\+a`, `a\+`: "a+", `A\ND`: `\AND`, `\OR`: `\OR`, `\+*`: `\+*`, `a\-?`: "a-?",
		"[a TO b]": "[a TO b]", "{a TO b}": "{a TO b}", "{* TO *}": "[* TO *]", "[* TO b}": "[* TO b}", "{* TO b]": "[* TO b]", "{a TO *}": "{a TO *]", `["a" TO "b c"]`: `[a TO b\ c]`, `["" TO ""}`: `["" TO ""}`, `{"*" TO \*}`: `{\* TO \*}`, "[ a TO b ]": "[a TO b]",
		"+a -b c": "+a -b c", "+ a": "+a", "-(a)": "-a", "-(a OR b)": "-(a OR b)", "+NOT a": "+NOT a", "+(NOT a)": "+NOT a", "+(a^2)": "+a^2", "a(b)": "a b", "(a OR b)c": "a OR b c", "a (+b -c)@3^2": "a (+b -c)@3^2", "((((a))))^2": "a^2",
	} {
		tree, _, err := syntax.Parse(q)
		if err != nil {
			t.Fatalf("Parse(%q): %v", q, err)
		}
		if got, err := printer.Print(tree); got != want || err != nil {
			t.Errorf("%q is printed as %q, %v, want %q", q, got, err, want)
		}
		if !holdQuery(t, q) || !holdQuery(t, want) {
			t.Errorf("%q and %q aren't query texts both", q, want)
		}
	}
}

// P15.3: many query texts.
func TestQueriesPrinted(t *testing.T) {
	dice := rand.New(rand.NewSource(154))
	held := 0
	for range 20000 {
		if holdQuery(t, madeQuery(dice, 30)) {
			held++
		}
	}
	if held < 19900 {
		t.Errorf("only %d of them are query texts", held)
	}
}

// smallTrees are all good trees of some leaves and of nodes up to a depth, by turns fewer.
func smallTrees() []api.Node {
	trees := []api.Node{a, b, has(), in("t", a), phrase("a", 0)}
	for _, few := range []int{len(trees), 60} {
		kids := trees[:few]
		for _, x := range kids {
			trees = append(trees, and(x), or(x), most(x), not(x), boost(0, x), boost(2, x), fixed(0, x))
			for _, sign := range []string{" ", "+", "-"} {
				trees = append(trees, list(0, sign, x), list(1, sign, x))
			}
		}
		for _, x := range kids {
			for _, y := range kids[:min(few, 20)] {
				trees = append(trees, and(x, y), or(x, y), most(x, y))
				for _, signs := range []string{"  ", "+ ", " -", "-+"} {
					trees = append(trees, list(0, signs, x, y), list(2, signs, x, y))
				}
			}
		}
	}
	return trees
}

// P15.4: good trees with one printed form have one canonical form, and the other way round.
func TestOneFormOneTree(t *testing.T) {
	forms := map[string]api.Node{}
	texts := map[string]string{}
	twice := 0
	hold := func(n api.Node) {
		text, err := printer.Print(n)
		if err != nil {
			t.Fatal(err)
		}
		canon, _ := printer.Canon(n)
		if first, ok := forms[text]; ok {
			twice++
			if !alike(first, canon) {
				t.Fatalf("%v and %v are both printed as %q", first, canon, text)
			}
		}
		told := fmt.Sprintf("%#v", canon)
		if first, ok := texts[told]; ok && first != text {
			t.Fatalf("%v is printed as %q and as %q", canon, first, text)
		}
		forms[text], texts[told] = canon, text
		holdParsed(t, n)
	}
	for _, n := range smallTrees() {
		hold(n)
	}
	dice := rand.New(rand.NewSource(155))
	for range 10000 {
		hold(madeTree(dice, 4))
	}
	if twice < 1000 {
		t.Errorf("only %d trees have the form of another one", twice)
	}
	for text, pair := range map[string][2]api.Node{
		"a": {or(a), list(0, " ", and(a))}, "+a": {list(0, "+", a), or(list(0, "+", most(a)))}, "(a)@1": {list(1, " ", a), list(0, " ", list(1, " ", or(a)))}, "a OR b": {or(a, b), and(or(list(0, " ", a), b))}, "NOT (a b)": {not(list(0, "  ", a, b)), not(or(list(0, "  ", a, and(b))))},
	} {
		for _, n := range pair {
			if got, err := printer.Print(n); got != text || err != nil {
				t.Errorf("Print(%v) is %q, %v, want %q", n, got, err, text)
			}
		}
		first, _ := printer.Canon(pair[0])
		second, _ := printer.Canon(pair[1])
		if !alike(first, second) {
			t.Errorf("%q has the canonical forms %v and %v", text, first, second)
		}
	}
}

// FuzzQuery holds the printer over the trees of texts.
func FuzzQuery(f *testing.F) {
	for _, q := range []string{"a", "+a -b c", "t:(a OR b AND c | NOT d)@2^3^=4", `[a TO ""} "b"~2 c~ d*e ?`, `\AND:\TO*`, "((a))@1 ((+a))"} {
		f.Add(q)
	}
	f.Fuzz(func(t *testing.T, q string) { holdQuery(t, q) })
}

// FuzzTree holds the printer over trees, good ones and spoilt ones.
func FuzzTree(f *testing.F) {
	f.Add(int64(1), uint8(3))
	f.Add(int64(2), uint8(200))
	f.Fuzz(func(t *testing.T, seed int64, room uint8) {
		dice := rand.New(rand.NewSource(seed))
		n := madeTree(dice, int(room)+1)
		holdTree(t, n)
		holdParsed(t, n)
		holdTree(t, spoilt(dice, n))
	})
}
