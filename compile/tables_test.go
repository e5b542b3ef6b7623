package compile_test

import (
	"fmt"
	"math"
	"slices"
	"strings"
	"testing"

	"concord/api"
)

// leavesOf are leaves that are told by a field's digit and a term each.
func leavesOf(text string) []api.Leaf {
	var out []api.Leaf
	for _, word := range strings.Fields(text) {
		out = append(out, api.Leaf{Field: int(word[0] - '0'), Term: word[1:]})
	}
	return out
}

// driven is a plan that leaves drive.
func driven(q api.Query, leaves string) api.Plan {
	return api.Plan{Root: q, Drive: leavesOf(leaves)}
}

// P22.1: the leaves that are cursors, each once, in their order, and the numbers of those that drive.
func TestCursorsAndDrive(t *testing.T) {
	t0 := func(text string) api.Query { return term(0, text, 1) }
	for _, r := range []struct {
		pl      api.Plan
		cursors string
		drive   []int
	}{
		{every(all), "", nil}, {driven(all, ""), "", nil}, {driven(none, ""), "", nil}, {every(has(2)), "", nil},
		{every(a), "0a", nil}, {driven(a, ""), "0a", nil}, {driven(a, "0a"), "0a", []int{0}}, {driven(a, "0a 0a 0a"), "0a", []int{0}},
		// Those of Drive alone.
		{driven(all, "0a"), "0a", []int{0}}, {driven(a, "0b"), "0a 0b", []int{1}}, {driven(b, "0a"), "0a 0b", []int{0}}, {driven(a, "2a 1a"), "0a 1a 2a", []int{1, 2}}, {driven(none, "1z 0z 1y 0z 2"), "0z 1y 1z 2", []int{0, 1, 2, 3}},
		// Drive out of order, and leaves several times.
		{driven(shoulds(0, a, b, c), "0c 0a 0c 0b 0a"), "0a 0b 0c", []int{0, 1, 2}}, {driven(shoulds(0, c, b, a), "0c 0a"), "0a 0b 0c", []int{0, 2}},
		// Told twice, out of order, by several kinds.
		{every(musts(c, a, b, a, c)), "0a 0b 0c", nil}, {every(most(phrase(0, 0, 1, "c a b a"), b, c, phrase(0, 5, 2, "a"))), "0a 0b 0c", nil}, {every(musts(phrase(0, 0, 1, "y x"), a)), "0a 0x 0y", nil},
		// Of several fields: a field's are ahead of those of the next, whatever their terms.
		{every(musts(term(2, "a", 1), term(1, "b", 1), term(0, "c", 1), term(1, "a", 1), term(2, "a", 2))), "0c 1a 1b 2a", nil}, {every(musts(phrase(2, 0, 1, "b a"), phrase(0, 0, 1, "b a"), a)), "0a 0b 2a 2b", nil}, {driven(musts(term(1, "b", 1), term(2, "a", 1)), "1a 2b 0c 1b"), "0c 1a 1b 2a 2b", []int{0, 1, 2, 4}},
		// Byte by byte: capitals ahead of small letters, short ones ahead of what they begin.
		{every(musts(t0("a"), t0("aa"), t0("B"), t0("b"), t0("ab"), t0("A"), t0("é"), t0("a!"), t0("z"))), "0A 0B 0a 0a! 0aa 0ab 0b 0z 0é", nil}, {every(musts(t0("b"), t0(""), t0("a"))), "0 0a 0b", nil},
		// In pieces that no instruction comes of.
		{every(list(0, "-", a)), "0a", nil}, {every(list(3, "  ", b, a)), "0a 0b", nil}, {every(list(5, "+ -", c, phrase(1, 0, 0, "x y"), not(b))), "0b 0c 1x 1y", nil}, {every(fixed(2, list(0, "+ ", b, most(a, list(2, " ", c))))), "0a 0b 0c", nil}, {driven(not(list(0, "+ ", all, phrase(0, 0, 0, "q p"))), "0q 0a"), "0a 0p 0q", []int{0, 2}},
	} {
		p := holdPlan(t, r.pl, stats(3))
		if !slices.Equal(p.Cursors, leavesOf(r.cursors)) || !slices.Equal(p.Drive, r.drive) || p.All != r.pl.All {
			t.Errorf("the program of %s is %s, want the cursors %s and %v to drive", brief(r.pl), brief(p), r.cursors, r.drive)
		}
	}
}

// P22.1: terms of all single bytes, and of none, in any order.
func TestCursorsOfBytes(t *testing.T) {
	var kids []api.Query
	want := []api.Leaf{{}, {Term: "\x00\x00"}}
	for i := range 256 {
		kids = append(kids, term(0, string([]byte{byte(i * 37)}), 1))
		want = append(want, api.Leaf{Term: string([]byte{byte(i)})})
	}
	want[1], want[2] = want[2], want[1]
	kids = append(kids, term(0, "\x00\x00", 1), term(0, "", 1))
	p := holdPlan(t, every(most(kids...)), stats(1))
	if !slices.Equal(p.Cursors, want) {
		t.Errorf("the cursors are %v", p.Cursors)
	}
}

// P22.1: leaves of all fields that there may be, in Root and in Drive.
func TestCursorsOfAllFields(t *testing.T) {
	for n := 1; n <= api.MaxFields; n++ {
		var kids []api.Query
		var drive, want []api.Leaf
		for field := n - 1; field >= 0; field-- {
			kids = append(kids, term(field, "x", 1), has(field))
			drive = append(drive, api.Leaf{Field: field, Term: "y"})
		}
		for field := range n {
			want = append(want, api.Leaf{Field: field, Term: "x"}, api.Leaf{Field: field, Term: "y"})
		}
		p := holdPlan(t, api.Plan{Root: most(kids...), Drive: drive}, stats(n))
		if !slices.Equal(p.Cursors, want) || len(p.Drive) != n || p.Drive[n-1] != 2*n-1 || p.Drive[0] != 1 {
			t.Errorf("%d fields: the program is %s", n, brief(p))
		}
	}
}

// P22.1: one phrase for each instruction that asks for one, in the order of the code.
func TestNears(t *testing.T) {
	p, q := phrase(0, 3, 20, "b a b"), phrase(1, 0, 21, "x")
	p.Offs, q.Offs = []int{0, 4, 2}, []int{api.EndDoc - 1}
	far := phrase(1, api.MaxNumber, 0, "y x y x")
	far.Offs = []int{9, 0, 9, api.EndDoc - 1}
	// The cursors are 0a 0b 1x 1y, as far as they are there; the rows have all of them.
	whole := "0a 0b 1x 1y"
	const pText, qText, farText = "near 3 1+0 0+4 1+2", "near 0 2+2147483646", "near 999999999 3+9 2+0 3+9 2+2147483646"
	for _, r := range []struct {
		q     api.Query
		nears string
		code  string
	}{
		{none, "", "none; end"},
		{p, pText, "phrase 0 20; end"}, {q, qText, "phrase 0 21; end"}, {far, farText, "phrase 0 0; end"},
		{most(p, q, far), pText + "; " + qText + "; " + farText, "phrase 0 20; phrase 1 21; max; phrase 2 0; max; end"},
		{most(far, q, p), farText + "; " + qText + "; " + pText, "phrase 0 0; phrase 1 21; max; phrase 2 20; max; end"},
		// One that is told twice is there twice.
		{musts(p, p, p), pText + "; " + pText + "; " + pText, "phrase 0 20; miss 5; phrase 1 20; and; miss 2; phrase 2 20; and; end"},
		{most(p, not(p)), pText + "; " + pText, "phrase 0 20; phrase 1 0; not; max; end"},
		// By the order of the code, not of the kids.
		{list(0, " -+", p, q, far), farText + "; " + qText + "; " + pText, "phrase 0 0; miss 5; phrase 1 0; except; miss 2; phrase 2 20; opt; end"},
		{list(1, "-+ ", p, q, far), qText + "; " + farText + "; " + pText, "phrase 0 21; miss 5; phrase 1 0; and; miss 2; phrase 2 0; except; end"},
		// Of a piece that is left out there is none.
		{list(2, " ", p), "", "none; end"}, {list(0, "-", p), "", "none; end"},
		{most(list(2, "+ ", p, far), q), qText, "none; phrase 0 21; max; end"},
		{most(p, list(2, " ", far), q), pText + "; " + qText, "phrase 0 20; none; max; phrase 1 21; max; end"},
		{fixed(2, list(0, "+ -", p, far, q)), pText + "; " + qText, "phrase 0 0; miss 2; phrase 1 0; except; fix 2; end"},
		{list(0, "+ -", p, far, q), pText + "; " + qText + "; " + farText, "phrase 0 20; miss 5; phrase 1 0; except; miss 2; phrase 2 0; opt; end"},
		{not(boost(3, p)), pText, "phrase 0 0; not; end"},
	} {
		pl := driven(r.q, whole)
		prog := holdPlan(t, pl, stats(2))
		if got := codeText(t, prog); got != r.code {
			t.Errorf("the code of %s is %s, want %s", brief(r.q), got, r.code)
		}
		var lines []string
		for _, line := range strings.Split(brief(prog), "; ") {
			if strings.HasPrefix(line, "near") {
				lines = append(lines, line)
			}
		}
		if got := strings.Join(lines, "; "); got != r.nears {
			t.Errorf("the phrases of %s are %s, want %s", brief(r.q), got, r.nears)
		}
	}
}

// P22.1: Avgs of any statistics.
func TestAvgs(t *testing.T) {
	for _, r := range []struct {
		docs       int
		sums, avgs []int
	}{
		{2, []int{7, 0}, []int{3, 0}},
		{1, []int{0}, []int{0}}, {1, []int{1}, []int{1}}, {2, []int{1}, []int{0}}, {2, []int{2}, []int{1}}, {2, []int{3}, []int{1}},
		{7, []int{6, 7, 8, 13, 14, 15}, []int{0, 1, 1, 1, 2, 2}}, {3, []int{math.MaxInt}, []int{math.MaxInt / 3}}, {1, []int{math.MaxInt}, []int{math.MaxInt}}, {math.MaxInt, []int{math.MaxInt, math.MaxInt - 1}, []int{1, 0}},
		// Without a document, and of what no documents come to.
		{0, []int{0, 0, 0}, []int{0, 0, 0}}, {0, []int{5, 7}, []int{0, 0}}, {-1, []int{5, -7}, []int{0, 0}}, {math.MinInt, []int{math.MinInt}, []int{0}}, {2, []int{-1, -2, -3, 4}, []int{0, 0, 0, 2}}, {1, []int{math.MinInt}, []int{0}},
	} {
		st := api.Stats{Docs: r.docs, Sums: r.sums}
		for _, q := range []api.Query{all, a, has(0)} {
			if p := holdPlan(t, every(q), st); !slices.Equal(p.Avgs, r.avgs) {
				t.Errorf("%v: the averages are %v, want %v", st, p.Avgs, r.avgs)
			}
		}
	}
	for n := 1; n <= api.MaxFields; n++ {
		st := api.Stats{Docs: 4}
		var want []int
		for i := range n {
			st.Sums, want = append(st.Sums, 50*i+i%4), append(want, 50*i/4+(50*i%4+i%4)/4)
		}
		if p := holdPlan(t, every(has(n-1)), st); !slices.Equal(p.Avgs, want) {
			t.Errorf("%d fields: the averages are %v, want %v", n, p.Avgs, want)
		}
	}
}

// P22.1, rule 7: the statistics say nothing but the averages, and what drives nothing of the code.
func TestWhatTheCodeHangsOn(t *testing.T) {
	m := newMaker(223)
	for range 2000 {
		pl := m.plan(4, 30)
		p := holdPlan(t, pl, m.stats(4))
		other := holdPlan(t, pl, m.stats(4))
		p.Avgs, other.Avgs = nil, nil
		if !alikeProgs(p, other) {
			t.Fatalf("over other statistics the program of %s is %s, not %s", brief(pl), brief(other), brief(p))
		}
		// The same leaves, in another order and several times.
		mixed := pl
		mixed.Drive = append(slices.Clone(pl.Drive), pl.Drive...)
		m.Shuffle(len(mixed.Drive), func(i, j int) { mixed.Drive[i], mixed.Drive[j] = mixed.Drive[j], mixed.Drive[i] })
		if got := holdPlan(t, mixed, stats(4)); fmt.Sprint(got.Cursors, got.Nears, got.All, got.Drive, got.Code) != fmt.Sprint(p.Cursors, p.Nears, p.All, p.Drive, p.Code) {
			t.Fatalf("the program of %s is %s, not %s", brief(mixed), brief(got), brief(p))
		}
	}
}
