package engine_test

import (
	"fmt"
	"math"
	"slices"
	"strings"
	"testing"

	"concord/api"
	"concord/engine"
)

// in is a text in so many brackets.
func in(n int, text string) string {
	return strings.Repeat("(", n) + text + strings.Repeat(")", n)
}

// wide is an engine with 1000 terms w000 .. w999 in two documents of which one waits, and a third document that is dead.
func wide(t *testing.T) *engine.Engine {
	e := mustNew(t, "t:text")
	mustAdd(t, e, "t", manyWords("w", 800), "dead "+manyWords("x", 300))
	e.Cut()
	mustAdd(t, e, "t", "w700 w701 w799 "+strings.TrimPrefix(manyWords("w", 1000), manyWords("w", 800)))
	mustDelete(t, e, 1)
	return e
}

// P25.3: which errors an outcome has, up to the limits, and which comes first.
func TestErrorsOfOutcome(t *testing.T) {
	e := wide(t)
	deep := in(api.MaxNest+1, "w000")
	great := "((w000^999999999)^999999999)^999999999"
	for _, q := range []string{"", " ", "(", "w000 OR", "a^", "a~3", "t:u:v", "[a b]", `"w`, `w\`, deep + ")", in(api.MaxNest+1, ""), "(" + great, in(40, "[* TO *]") + in(70, "[* TO *]") + ")"} {
		wantError(t, e, q, api.ErrSyntax)
	}
	for _, q := range []string{deep, in(api.MaxNest, "w000^1"), strings.Repeat("NOT ", api.MaxNest+1) + "w000", deep + "^0", in(api.MaxNest+1, great), in(api.MaxNest+1, "w* w*"), "w000^0" + strings.Repeat("^1", api.MaxNest)} {
		wantError(t, e, q, api.ErrDeep)
	}
	for _, q := range []string{strings.Repeat("a ", api.MaxTerms+1), "w* " + strings.Repeat("a ", 25), "w* -w0*", "NOT (w* w*)", "(w* w*)^=1", "w* [* TO *]", great + " w* w0*", "t:\"" + strings.Repeat("a ", api.MaxTerms+1) + "\"", "(w* w*)^0"} {
		wantError(t, e, q, api.ErrTerms)
	}
	for _, q := range []string{great, great + "^1", "a OR " + great, "+" + great, great + " -w000", "(a | " + great + ")", great + " AND nowhere", "*:*^8388608^4194304", "w*^999999999^999999999"} {
		wantError(t, e, q, api.ErrScore)
	}
	for q, n := range map[string]int{
		in(api.MaxNest, "w000"): 1, strings.Repeat("NOT ", api.MaxNest) + "w000": 1, "w000" + strings.Repeat("^1", api.MaxNest): 1,
		strings.Repeat("w000 ", api.MaxTerms): 1, "w* " + strings.Repeat("a ", 24): 2, "NOT w*": 0, "x*": 0, "[* TO *]": 2, "dead": 0,
		great + "^0": 1, "(" + great + ")^=1": 1, "NOT " + great: 1, "*:* -(" + great + ")": 1, "nowhere^999999999^999999999^999999999": 0,
		"*:*^2391991^14709241": 2, "*:*^8388608^4194303": 2,
	} {
		got, err := e.Count(q)
		if want := e.Live(); want != 2 || got != n || err != nil {
			t.Errorf("Count(%.40q): %d, %v, want %d", q, got, err, n)
		}
	}
}

// P25.3: a bound just below Top is none that reaches it.
func TestGreatScores(t *testing.T) {
	e := mustNew(t, "t:text")
	mustAdd(t, e, "t", "a", "b")
	// 2391991 and 14709241 make 2^45 - 1.
	const below = api.Top - api.One
	wantHits(t, e, `*:*^2391991^14709241`, api.Hit{Id: 0, Score: below}, api.Hit{Id: 1, Score: below})
	wantHits(t, e, `(*:*^=2391991)^14709241`, api.Hit{Id: 0, Score: below}, api.Hit{Id: 1, Score: below})
	wantHits(t, e, `(*:*^2391991^14709241 | *:*)`, api.Hit{Id: 0, Score: below}, api.Hit{Id: 1, Score: below})
	wantError(t, e, `*:*^2391991^14709241 *:*`, api.ErrScore)
	wantError(t, e, `*:*^2391991^14709241 OR t:*`, api.ErrScore)
	wantError(t, e, `+*:*^2391991^14709241 t:*`, api.ErrScore)
	wantError(t, e, `*:*^8388608^4194304`, api.ErrScore)
	// Whether it matches isn't asked: the bound alone is.
	wantError(t, e, `+nowhere *:*^8388608^4194304`, api.ErrScore)
	wantHits(t, e, `+*:* -(*:*^8388608^4194304)^999999999`)
	wantHits(t, e, `(*:*^8388608^4194304)^999999999^0`, api.Hit{Id: 0}, api.Hit{Id: 1})
	wantHits(t, e, `NOT nowhere^999999999^999999999^999999999`, api.Hit{Id: 0}, api.Hit{Id: 1})
}

// P25.3, P25.4: of a text with and without an error, which calls cut and which don't.
func TestWhichCallsCut(t *testing.T) {
	for _, q := range []string{"red", "nowhere", "(", in(65, "a"), strings.Repeat("a ", 1025), "red^999999999^999999999^999999999"} {
		for name, call := range map[string]func(e *engine.Engine){
			"Search":   func(e *engine.Engine) { e.Search(q, 1) },
			"Search 0": func(e *engine.Engine) { e.Search(q, 0) },
			"After":    func(e *engine.Engine) { e.After(q, api.Hit{}, 1) },
			"After 0":  func(e *engine.Engine) { e.After(q, api.Hit{}, 0) },
			"Count":    func(e *engine.Engine) { e.Count(q) },
			"Program":  func(e *engine.Engine) { e.Program(q) },
			"DeleteBy": func(e *engine.Engine) { e.DeleteBy(q) },
			"Index":    func(e *engine.Engine) { e.Index() },
			"Parts":    func(e *engine.Engine) { e.Parts() },
			"Cut":      func(e *engine.Engine) { e.Cut() },
			"no Query": func(e *engine.Engine) { e.Query(q) },
			"no rest":  callsThatDontCut,
		} {
			e := mustNew(t, "t:text")
			mustAdd(t, e, "t", "red", "fox")
			call(e)
			want := 1
			if strings.HasPrefix(name, "no ") {
				want = 0
			}
			if got := e.Segments(); len(got) != want || want == 1 && got[0].Docs != 2 {
				t.Errorf("%s of %.30q leaves the segments %v", name, q, got)
			}
		}
	}
}

// callsThatDontCut makes each of them, so that two documents wait as ahead of it.
func callsThatDontCut(e *engine.Engine) {
	e.Live()
	e.Get(0)
	e.Schema()
	e.Optimise(false)
	e.Merge(0, 1)
	e.Tidy(2)
	e.Segments()
	e.Add(value("t", "dog"))
	e.Update(1, nil)
	e.Delete(2)
	e.Add(value("x", ""))
	e.Update(0, value("x", ""))
	e.Delete(7)
}

// five is an engine of which *:* and t:* score 0 to 4 alike, and red unlike.
func five(t *testing.T) *engine.Engine {
	e := mustNew(t, "t:text")
	mustAdd(t, e, "t", "red", "red red", "red x")
	e.Cut()
	mustAdd(t, e, "t", "red red red", "red x")
	return e
}

// P25.3: every k, of a query of unlike and of alike scores.
func TestSearchAndAfter(t *testing.T) {
	e := five(t)
	for q, order := range map[string][]int{"red": {3, 1, 0, 2, 4}, "*:*": {0, 1, 2, 3, 4}, "red^0": {0, 1, 2, 3, 4}, "x": {2, 4}, "red -x": {3, 1, 0}, "nowhere": nil} {
		all, err := e.Search(q, math.MaxInt)
		if err != nil {
			t.Fatal(err)
		}
		var ids []int
		for _, h := range all {
			ids = append(ids, h.Id)
		}
		if !slices.Equal(ids, order) {
			t.Errorf("Search(%q): %v, want the ids %v", q, all, order)
		}
		for _, k := range []int{math.MinInt, -1, 0, 1, 2, len(all) - 1, len(all), len(all) + 1, math.MaxInt} {
			if got, err := e.Search(q, k); !slices.Equal(got, firstOf(all, k)) || err != nil {
				t.Errorf("Search(%q, %d): %v, %v, want %v", q, k, got, err, firstOf(all, k))
			}
			for i, h := range all {
				if got, err := e.After(q, h, k); !slices.Equal(got, firstOf(all[i+1:], k)) || err != nil {
					t.Errorf("After(%q, %v, %d): %v, %v, want %v", q, h, k, got, err, firstOf(all[i+1:], k))
				}
				for _, beside := range []api.Hit{{Id: h.Id - 1, Score: h.Score}, {Id: h.Id + 1, Score: h.Score}, {Id: h.Id, Score: h.Score + 1}, {Id: h.Id, Score: h.Score - 1}, {Id: math.MinInt, Score: h.Score}, {Id: math.MaxInt, Score: h.Score}} {
					if got, err := e.After(q, beside, k); !slices.Equal(got, firstOf(behind(all, beside), k)) || err != nil {
						t.Errorf("After(%q, %v, %d): %v, %v", q, beside, k, got, err)
					}
				}
			}
			// Ahead of all, and behind all.
			if got, err := e.After(q, api.Hit{Id: -1, Score: math.MaxUint64}, k); !slices.Equal(got, firstOf(all, k)) || err != nil {
				t.Errorf("After(%q) of a hit ahead of all, %d: %v, %v", q, k, got, err)
			}
			if got, err := e.After(q, api.Hit{Id: math.MaxInt}, k); len(got) > 0 || err != nil {
				t.Errorf("After(%q) of a hit behind all, %d: %v, %v", q, k, got, err)
			}
		}
	}
}

// P25.3: DeleteBy deletes all that match, wherever they lie, and no others.
func TestDeleteBy(t *testing.T) {
	for q, left := range map[string][]int{"red": nil, "x": {0, 1, 3}, "-red": {0, 1, 2, 3, 4}, `"red red"`: {0, 2, 4}, "NOT x": {2, 4}, "*:*": nil, "nowhere": {0, 1, 2, 3, 4}, "(": {0, 1, 2, 3, 4}, "red^0": nil} {
		e := five(t)
		n, _ := e.DeleteBy(q)
		if n != 5-len(left) || e.Live() != len(left) {
			t.Errorf("DeleteBy(%q): %d, and %d are live", q, n, e.Live())
		}
		for id := range 5 {
			if _, err := e.Get(id); (err == nil) != slices.Contains(left, id) {
				t.Errorf("behind DeleteBy(%q) Get(%d) answers %v", q, id, err)
			}
		}
		if again, _ := e.DeleteBy(q); again != 0 {
			t.Errorf("DeleteBy(%q), again: %d", q, again)
		}
		// With nothing dead but what was, the dead of the segments are their local numbers.
		x := e.Index()
		if dead := len(x.Pieces[0].Dead) + len(x.Pieces[1].Dead); dead != n {
			t.Errorf("behind DeleteBy(%q) %d are dead", q, dead)
		}
	}
}

// queryTexts are query texts of every form.
func queryTexts() []string {
	return strings.Split(`red|fox;red;fox;Red FOX;title:red;nosuch:red;*:*;*;title:*;tag:*;price:*;red fox;+red fox;+red -fox;-red;+red +fox dog;red AND fox;red OR fox;red|fox|dog;NOT red;NOT NOT red;red^2;red^0;red^=3;(red fox)^2^=5;"red fox";"red fox"~2;"fox red"~9;"the red";re*;*d;r?d;f*x;ro?~;rod~;rod~1;foy~2;[fox TO red];{fox TO red};[* TO red};{red TO *];[* TO *];tag:a;tag:A;tag:[a TO b];tag:"x y";tag:x\ y;tag:~1;tag:r~;tag:?;price:7;price:007;price:\-7;price:[0 TO *];price:{"-7" TO 12];price:x;(red fox dog)@2;(red fox dog)@3;(red +fox dog -cat)@1;(red fox)@9;(red fox)@0;title:(red tag:a (body:red fox));the;+the red;red -the;NOT the;cats;running;runs;body:cats;(red OR fox AND dog) -(cat (dog fox));((red|fox) OR (dog|cat)^3)^2;red (fox^=1 dog^=2)^=3;red NOT (fox -dog)`, ";")
}

// P2, P25.3: query texts of every form over documents that are cut in every way, with every set of dead ones.
func TestEveryCut(t *testing.T) {
	docs := [][]api.Value{
		{{Name: "title", Text: "Red fox"}, {Name: "tag", Text: "a"}, {Name: "price", Text: "7"}},
		{{Name: "title", Text: "the red dog, the red fox"}, {Name: "body", Text: "red cats"}, {Name: "price", Text: "-7"}},
		{{Name: "body", Text: "running dogs fox rod"}, {Name: "tag", Text: "x y"}, {Name: "tag", Text: "red"}},
		{{Name: "title", Text: "dog cat"}, {Name: "title", Text: "fox"}, {Name: "price", Text: "0"}, {Name: "tag", Text: "b"}},
	}
	s := mustParse(t, wholeSchema)
	texts := queryTexts()
	some := 0
	for dead := range 1 << len(docs) {
		var live []api.Doc
		for id, values := range docs {
			if dead>>id&1 == 0 {
				live = append(live, api.Doc{Id: id, Values: values})
			}
		}
		c := corpusOf(s, live)
		for cut := range 1 << len(docs) {
			e := mustNew(t, wholeSchema)
			for id, values := range docs {
				e.Add(values)
				if cut>>id&1 == 1 {
					e.Cut()
				}
			}
			for id := range docs {
				if dead>>id&1 == 1 {
					mustDelete(t, e, id)
				}
			}
			e.Optimise(cut%2 == 0)
			for _, q := range texts {
				want, wantErr := c.outcome(q)
				if got, err := e.Search(q, 10); !slices.Equal(got, want) || err != wantErr {
					t.Fatalf("with the dead %b and the cuts %b, Search(%q): %v, %v, want %v, %v", dead, cut, q, got, err, want, wantErr)
				}
				some += len(want)
			}
		}
	}
	if some < 10000 {
		t.Errorf("only %d hits", some)
	}
}

// P2: the documents of many segments.
func TestManySegments(t *testing.T) {
	b := newBench(t, mustParse(t, exampleSchema))
	m := newMaker(254)
	for i := range 300 {
		b.add(value("title", fmt.Sprintf("red w%d w%d", i%7, i%11)))
		b.cut()
		if i%5 == 0 {
			b.delete(m.roll(i + 1))
		}
	}
	ask := func() {
		t.Helper()
		for _, q := range []string{"red", "w3", "w*", "w1 w2", "+w1 -w2", "NOT w0", `"red w1"`} {
			b.search(m, q)
			b.program(q)
		}
	}
	ask()
	b.merge(10, 100)
	ask()
	b.tidy(4)
	ask()
	b.deleteBy("w3")
	b.tidy(2)
	ask()
	b.index()
}
