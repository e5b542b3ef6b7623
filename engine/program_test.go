package engine_test

import (
	"strings"
	"testing"

	"concord/api"
	"concord/bind"
	"concord/engine"
	"concord/isa"
)

// wantProgram says what program a query text comes to, as a listing with "; " in the place of the line feeds.
func wantProgram(t *testing.T, e *engine.Engine, on bool, q, want string) {
	t.Helper()
	e.Optimise(on)
	p, err := e.Program(q)
	if err != nil {
		t.Errorf("Program(%q): %v", q, err)
		return
	}
	text, err := isa.Text(p)
	if got := strings.ReplaceAll(strings.TrimSuffix(text, "\n"), "\n", "; "); got != want || err != nil {
		t.Errorf("Program(%q) with the optimiser %v: %s, %v, want %s", q, on, got, err, want)
	}
}

// P25.4: programs of the examples, with the optimiser on and off.
func TestPrograms(t *testing.T) {
	e := twoIn(t)
	for _, x := range []struct{ q, on, off string }{
		{"fox", `avgs 3 0; cursor 0 "fox"; drive 0; term 0 256; end`, `avgs 3 0; cursor 0 "fox"; every; term 0 256; end`},
		{"nowhere", `avgs 3 0; none; end`, `avgs 3 0; every; none; end`},
		{"red^3 -fox", `avgs 3 0; cursor 0 "fox"; cursor 0 "red"; drive 1; term 1 201; miss 2; term 0 0; except; end`, `avgs 3 0; cursor 0 "fox"; cursor 0 "red"; every; term 1 67; scale 3; miss 2; term 0 0; except; end`},
		{"red AND fox", `avgs 3 0; cursor 0 "fox"; cursor 0 "red"; drive 0; term 0 256; miss 2; term 1 67; and; end`, `avgs 3 0; cursor 0 "fox"; cursor 0 "red"; every; term 1 67; miss 2; term 0 256; and; end`},
		{"NOT fox", `avgs 3 0; cursor 0 "fox"; every; term 0 0; not; end`, `avgs 3 0; cursor 0 "fox"; every; term 0 0; not; end`},
		{"tag:*", `avgs 3 0; every; has 1; end`, `avgs 3 0; every; has 1; end`},
		{"fo*", `avgs 3 0; cursor 0 "fox"; drive 0; term 0 256; end`, `avgs 3 0; cursor 0 "fox"; every; term 0 256; end`},
	} {
		for range 2 {
			wantProgram(t, e, false, x.q, x.off)
			wantProgram(t, e, true, x.q, x.on)
		}
	}
	// At first the optimiser is on, of a new engine and of one of an index.
	for _, fresh := range []*engine.Engine{twoIn(t), mustFrom(t, twoIn(t).Index())} {
		p, err := fresh.Program("fox")
		if p.All || err != nil {
			t.Errorf("Program: %s, %v", brief(p), err)
		}
	}
	// Averages and rarities are those of the live documents.
	mustDelete(t, e, 1)
	wantProgram(t, e, true, "red", `avgs 2 1; cursor 0 "red"; drive 0; term 0 107; end`)
	wantProgram(t, e, true, "dog", `avgs 2 1; none; end`)
}

// P25.4: Query of texts that parse and bind, and of such as don't, over documents that have the terms or don't.
func TestQuery(t *testing.T) {
	e := mustNew(t, "title:text,fold,stop,stem;tag:keyword;price:number")
	mustAdd(t, e, "tag", "Red")
	deep := in(api.MaxNest+1, "a")
	for q, want := range map[string]string{
		"Cats": `(term 0 "cat" 0)`, `"The cats running"~2`: `(phrase 0 2 0 "cat"@0 "run"@1)`, "the": "none", "the OR cat^3": `(list 0 (boost 3 (term 0 "cat" 0)))`,
		"tag:Red": `(term 1 "Red" 0)`, `tag:""`: "none", "nosuch:x": "none", "price:x": "none", "Ca*": `(prefix 0 "ca")`, `price:[1 TO *]`: `(span 2 ="\80\00\00\00\00\00\00\01" *)`,
		"+the -dog": `(list 0 -(term 0 "dog" 0))`, "*:*": "all", "tag:*": "(has 1)", "ab~": `(fuzzy 0 2 "ab")`, strings.Repeat("tag:w*^999999999 ", 2): `(list 0 (boost 999999999 (prefix 1 "w")) (boost 999999999 (prefix 1 "w")))`,
	} {
		x, err := e.Query(q)
		if got := bind.Text(x); got != want || err != nil {
			t.Errorf("Query(%q): %s, %v, want %s", q, got, err, want)
		}
	}
	for q, want := range map[string]error{"": api.ErrSyntax, "(": api.ErrSyntax, "a OR": api.ErrSyntax, "a~3": api.ErrSyntax, deep: api.ErrDeep, deep + ")": api.ErrSyntax, "(" + deep: api.ErrSyntax, in(api.MaxNest, "a"): nil} {
		x, err := e.Query(q)
		if err != want || want != nil && !bind.Same(x, api.Query{}) {
			t.Errorf("Query(%.20q): %s, %v, want %v", q, brief(x), err, want)
		}
	}
	// No more than that is asked: neither how many terms there are, nor how much they can score.
	for _, q := range []string{strings.Repeat("a ", api.MaxTerms+1), "tag:Red^999999999^999999999^999999999"} {
		if x, err := e.Query(q); x.Kind == 0 || err != nil {
			t.Errorf("Query(%.20q): %s, %v", q, brief(x), err)
		}
	}
	wantSegments(t, e)
}

// P25.4, P6: programs of query texts of every form are what the layers below make, and their runs tell the outcome.
func TestProgramsOfEveryForm(t *testing.T) {
	b := newBench(t, mustParse(t, wholeSchema))
	m := newMaker(257)
	for range 5 {
		for range 8 {
			b.add(m.values(b.model.schema))
		}
		b.delete(m.roll(b.model.next))
		b.cut()
		for _, q := range append(queryTexts(), "", "(", in(65, "a"), "red^999999999^999999999^999999999") {
			b.optimise(0, m.coin())
			b.program(q)
		}
	}
	b.met.wantMany(t, 50, "a program with the optimiser", "a program without the optimiser", "leaves drive")
	b.met.wantMany(t, 10, "all documents drive")
}

// P25.4: Program has cut, so that what waits is found by it.
func TestProgramCuts(t *testing.T) {
	e := mustNew(t, "t:text")
	mustAdd(t, e, "t", "red")
	wantProgram(t, e, true, "red", `avgs 1; cursor 0 "red"; drive 0; term 0 107; end`)
	mustAdd(t, e, "t", "red fox x y z")
	wantProgram(t, e, true, "red", `avgs 3; cursor 0 "red"; drive 0; term 0 67; end`)
}
