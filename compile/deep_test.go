package compile_test

import (
	"fmt"
	"slices"
	"strings"
	"testing"

	"concord/api"
	"concord/isa"
)

// word is the term number i; its cursor's number is i and 1, for "a" is the first.
func word(i int) api.Query { return term(0, fmt.Sprintf("w%06d", i), uint64(i)) }

// instructions are those of lines of a listing.
func instructions(lines ...string) []api.Instr {
	text := "avgs\n" + strings.Join(append(lines, ""), "\n")
	p, _, err := isa.Read(text)
	if err != nil {
		panic("no instructions: " + text)
	}
	list, _ := isa.Decode(p.Code)
	return list
}

// pile is a way to put a query into another one, again and again, and what stands in the code around that of the query, which has so many instructions.
type pile struct {
	name   string
	bare   bool // the whole is put into a QConst, so that all codes are bare
	wrap   func(q api.Query, i int) api.Query
	around func(i, inner int) (ahead, behind []string)
}

// piles are piles of every kind that has kids, with the query at every place.
func piles() []pile {
	term := func(i int) string { return fmt.Sprintf("term %d %d", i+1, i) }
	bareTerm := func(i int) string { return fmt.Sprintf("term %d 0", i+1) }
	skip := func(name string, n int) string { return fmt.Sprintf("%s %d", name, n) }
	s := func(lines ...string) []string { return lines }
	return []pile{
		{"boosts", false, func(q api.Query, i int) api.Query { return boost(uint64(i), q) }, func(i, inner int) (_, _ []string) { return nil, s(skip("scale", i)) }},
		{"bare boosts", true, func(q api.Query, i int) api.Query { return boost(uint64(i), q) }, func(i, inner int) (_, _ []string) { return nil, nil }},
		{"bare constants", true, func(q api.Query, i int) api.Query { return fixed(uint64(i), q) }, func(i, inner int) (_, _ []string) { return nil, nil }},
		{"bare nots", true, func(q api.Query, i int) api.Query { return not(q) }, func(i, inner int) (_, _ []string) { return nil, s("not") }},
		{"maxima, first", false, func(q api.Query, i int) api.Query { return most(q, word(i)) }, func(i, inner int) (_, _ []string) { return nil, s(term(i), "max") }},
		{"maxima, last", false, func(q api.Query, i int) api.Query { return most(word(i), q) }, func(i, inner int) (_, _ []string) { return s(term(i)), s("max") }},
		{"bare maxima, first", true, func(q api.Query, i int) api.Query { return most(q, word(i)) }, func(i, inner int) (_, _ []string) { return nil, s("hit 2", bareTerm(i), "max") }},
		{"bare maxima, last", true, func(q api.Query, i int) api.Query { return most(word(i), q) }, func(i, inner int) (_, _ []string) { return s(bareTerm(i), skip("hit", inner+1)), s("max") }},
		{"bare shoulds, between", true, func(q api.Query, i int) api.Query { return shoulds(0, word(i), q, all) }, func(i, inner int) (_, _ []string) {
			return s(bareTerm(i), skip("hit", inner+4)), s("or", "hit 2", "all", "or")
		}},
		{"shoulds, first", false, func(q api.Query, i int) api.Query { return shoulds(1, q, word(i)) }, func(i, inner int) (_, _ []string) { return nil, s(term(i), "or") }},
		{"two shoulds", false, func(q api.Query, i int) api.Query { return shoulds(2, word(i), q) }, func(i, inner int) (_, _ []string) { return s(term(i)), s("least 2 2") }},
		{"musts, first", false, func(q api.Query, i int) api.Query { return musts(q, word(i)) }, func(i, inner int) (_, _ []string) { return nil, s("miss 2", term(i), "and") }},
		{"musts, last", false, func(q api.Query, i int) api.Query { return musts(word(i), q) }, func(i, inner int) (_, _ []string) { return s(term(i), skip("miss", inner+1)), s("and") }},
		{"options", false, func(q api.Query, i int) api.Query { return list(0, "+ ", word(i), q) }, func(i, inner int) (_, _ []string) { return s(term(i), skip("miss", inner+1)), s("opt") }},
		{"must-nots", true, func(q api.Query, i int) api.Query { return list(0, "-+-", q, word(i), all) }, func(i, inner int) (_, _ []string) {
			return s(bareTerm(i), skip("miss", inner+4)), s("except", "miss 2", "all", "except")
		}},
		{"asked shoulds behind a must", false, func(q api.Query, i int) api.Query { return list(1, " + -", q, word(i), all, all) }, func(i, inner int) (_, _ []string) {
			return s(term(i), skip("miss", inner+6)), s("all", "or", "and", "miss 2", "all", "except")
		}},
	}
}

// wantPile holds the program of a pile of so many against what stands around the code of its seed.
func (p pile) wantPile(t *testing.T, n int) {
	t.Helper()
	q := a
	code := []string{"term 0 5"}
	if p.bare {
		code[0] = "term 0 0"
	}
	var aheads, behinds []string
	inner := 1
	for i := range n {
		q = p.wrap(q, i)
		ahead, behind := p.around(i, inner)
		slices.Reverse(ahead)
		aheads, behinds = append(aheads, ahead...), append(behinds, behind...)
		inner += len(ahead) + len(behind)
	}
	slices.Reverse(aheads)
	if p.bare {
		q, behinds = fixed(6, q), append(behinds, "fix 6")
	}
	want := instructions(append(slices.Concat(aheads, code, behinds), "end")...)
	prog := mustProgram(t, every(q), stats(1))
	if n < 50 {
		holdPlan(t, every(q), stats(1))
	}
	if got, err := isa.Decode(prog.Code); err != nil || !slices.Equal(got, want) {
		t.Fatalf("%s, %d of them: the code is %.300v, want %.300v", p.name, n, got, want)
	}
}

// P22.1, P22.2: queries nested far above MaxNest, up to what is promised.
func TestDeepQueries(t *testing.T) {
	for _, p := range piles() {
		for _, n := range []int{0, 1, 2, 3, 10, 64, 65, 1000, 1<<16 - 4} {
			p.wantPile(t, n)
		}
	}
}

// P22.1: lists that never match, as deep as that: no instruction comes of what is in them, but the cursors do.
func TestDeepLeftOut(t *testing.T) {
	q := phrase(0, 0, 1, "b a")
	for range 1<<16 - 4 {
		q = shoulds(2, q)
	}
	p := mustProgram(t, driven(q, "0b"), stats(1))
	if codeText(t, p) != "none; end" || len(p.Cursors) != 2 || len(p.Nears) != 0 || !slices.Equal(p.Drive, []int{1}) {
		t.Errorf("the program is %s", brief(p))
	}
}

// P22.1: deep below, what isn't good, isn't plain, or is too long is found.
func TestDeepRefusals(t *testing.T) {
	for _, p := range piles() {
		for _, q := range []api.Query{{}, manyTermOnes()[0], term(1, "a", 0), term(0, longest+"w", 0)} {
			for i := range 5000 {
				q = p.wrap(q, i)
			}
			wantRefused(t, p.name, every(q), 1)
		}
	}
}

// P22.1: wide queries, of many cursors and phrases.
func TestWideQueries(t *testing.T) {
	const n = 20000
	var kids []api.Query
	var drive []api.Leaf
	for i := range n {
		// The terms come in a mixed order, some twice.
		w := word(i * 7919 % n / 2 * 2)
		kids = append(kids, w, api.Query{Kind: api.QPhrase, Terms: []string{w.Text, "a"}, Offs: []int{1, 0}, N: i, Weight: 1})
		drive = append(drive, api.Leaf{Term: w.Text})
	}
	p := mustProgram(t, api.Plan{Root: shoulds(n, kids...), Drive: drive}, stats(1))
	if len(p.Cursors) != n/2+1 || len(p.Nears) != n || len(p.Drive) != n/2 || p.Drive[0] != 1 {
		t.Fatalf("%d cursors, %d phrases, %d drive", len(p.Cursors), len(p.Nears), len(p.Drive))
	}
	code, err := isa.Decode(p.Code)
	if err != nil || len(code) != 2*n+2 || code[2*n] != (api.Instr{Op: api.OpLeast, A: 2 * n, B: n}) {
		t.Fatalf("%d instructions, %v", len(code), err)
	}
	for i := range n {
		cursor := 1 + i*7919%n/2
		near := api.Near{Cursors: []int{cursor, 0}, Offs: []int{1, 0}, Slop: i}
		if int(code[2*i].A) != cursor || code[2*i+1] != (api.Instr{Op: api.OpPhrase, A: uint64(i), B: 1}) || !alikeNears(p.Nears[i], near) {
			t.Fatalf("kid %d: %v, %v, %v", i, code[2*i], code[2*i+1], p.Nears[i])
		}
	}
}
