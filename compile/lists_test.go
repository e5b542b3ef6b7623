package compile_test

import (
	"fmt"
	"math"
	"strings"
	"testing"

	"concord/api"
	"concord/isa"
)

// orders are all rows of so many musts, shoulds and must-nots, as signs.
func orders(must, should, mustNot int) []string {
	if must+should+mustNot == 0 {
		return []string{""}
	}
	var out []string
	for _, x := range []struct {
		sign               string
		left               int
		must, should, nots int
	}{{"+", must, must - 1, should, mustNot}, {" ", should, must, should - 1, mustNot}, {"-", mustNot, must, should, mustNot - 1}} {
		if x.left == 0 {
			continue
		}
		for _, rest := range orders(x.must, x.should, x.nots) {
			out = append(out, x.sign+rest)
		}
	}
	return out
}

// wordsOf are terms of the field 0 whose cursors' numbers fall.
func wordsOf(n int) []api.Query {
	var out []api.Query
	for i := range n {
		out = append(out, term(0, string(rune('z'-i)), uint64(100+i)))
	}
	return out
}

// eachOrder gives every list of 0 to 3 musts, shoulds and must-nots, in every order and with every need up to one above the shoulds.
func eachOrder(use func(signs string, need int)) {
	for i := range 4 * 4 * 4 {
		must, should, mustNot := i/16, i/4%4, i%4
		for _, signs := range orders(must, should, mustNot) {
			for need := 0; need <= should+1 && signs != ""; need++ {
				use(signs, need)
			}
		}
	}
}

// P22.1: every order of kids, every need, in full and bare.
func TestLists(t *testing.T) {
	n := 0
	eachOrder(func(signs string, need int) {
		q := list(need, signs, wordsOf(len(signs))...)
		holdPlan(t, every(q), stats(1))
		holdPlan(t, every(not(q)), stats(1))
		holdPlan(t, every(list(0, "+-", all, q)), stats(1))
		n++
	})
	if n < 20000 {
		t.Errorf("only %d lists", n)
	}
}

// P22.1: the same with kids whose own codes differ in full and bare, and in their lengths.
func TestListsOfLists(t *testing.T) {
	eachOrder(func(signs string, need int) {
		kids := wordsOf(len(signs))
		for i := range kids {
			if i%2 == 0 {
				kids[i] = wraps[(i*5+need+len(signs))%len(wraps)](kids[i])
			}
		}
		q := list(need, signs, kids...)
		holdPlan(t, every(q), stats(1))
		holdPlan(t, every(fixed(3, q)), stats(1))
	})
}

// kidsBy are the numbers of the kids with this sign.
func kidsBy(signs, sign string) []int {
	var out []int
	for i := range signs {
		if signs[i:i+1] == sign {
			out = append(out, i)
		}
	}
	return out
}

// written is the code of a list of the words by the chapter's four steps, as a listing whose skips are named and filled in last.
func written(signs string, need int, bare bool) string {
	musts, some, nots := kidsBy(signs, "+"), kidsBy(signs, " "), kidsBy(signs, "-")
	if need == 0 && len(musts) == 0 {
		need = 1
	}
	if need > len(some) {
		return "none"
	}
	word := func(i int, full bool) string {
		if !full {
			return fmt.Sprintf("term %d 0", len(signs)-1-i)
		}
		return fmt.Sprintf("term %d %d", len(signs)-1-i, 100+i)
	}
	var lines []string
	for k, i := range musts {
		if k == 0 {
			lines = append(lines, word(i, !bare))
		} else {
			lines = append(lines, "miss END", word(i, !bare), "and")
		}
	}
	if need >= 1 {
		if len(musts) > 0 {
			lines = append(lines, "miss END")
		}
		for k, i := range some {
			if bare && need == 1 && k > 0 {
				lines = append(lines, "hit BEHIND")
			}
			lines = append(lines, word(i, !bare))
			if need == 1 && k > 0 {
				lines = append(lines, "or")
			}
		}
		if need > 1 {
			lines = append(lines, fmt.Sprintf("least %d %d", len(some), need))
		}
		lines = filled(lines, "hit BEHIND")
		if len(musts) > 0 {
			lines = append(lines, "and")
		}
	}
	for _, i := range nots {
		lines = append(lines, "miss END", word(i, false), "except")
	}
	if need == 0 && len(some) > 0 && !bare {
		lines = append(lines, "miss END")
		for _, i := range some {
			lines = append(lines, word(i, true), "opt")
		}
	}
	return strings.Join(filled(lines, "miss END"), "; ")
}

// filled are lines in which this skip leads behind the last of them.
func filled(lines []string, skip string) []string {
	for i, line := range lines {
		if line == skip {
			lines[i] = fmt.Sprintf("%s %d", strings.Fields(skip)[0], len(lines)-1-i)
		}
	}
	return lines
}

// P22.1: lists of words by the chapter's steps, written out as a listing.
func TestWrittenLists(t *testing.T) {
	eachOrder(func(signs string, need int) {
		q := list(need, signs, wordsOf(len(signs))...)
		for _, r := range []struct{ got, want string }{
			{codeText(t, mustProgram(t, every(q), stats(1))), written(signs, need, false) + "; end"},
			{codeText(t, mustProgram(t, every(not(q)), stats(1))), written(signs, need, true) + "; not; end"},
			{codeText(t, mustProgram(t, every(fixed(5, q)), stats(1))), written(signs, need, true) + "; fix 5; end"},
		} {
			if r.got != r.want {
				t.Fatalf("list %d of %q: the code is %s, want %s", need, signs, r.got, r.want)
			}
		}
	})
}

// P22.1: a great need is told as it is.
func TestGreatNeeds(t *testing.T) {
	for _, n := range []int{2, 127, 128, 300, 20000} {
		kids := make([]api.Query, n)
		for i := range kids {
			kids[i] = all
		}
		for _, need := range []int{2, n - 1, n, n + 1, api.MaxNumber} {
			want := strings.Repeat("all; ", n) + fmt.Sprintf("least %d %d; end", n, need)
			if need > n {
				want = "none; end"
			} else if need == 1 {
				continue
			}
			if got := codeText(t, mustProgram(t, every(shoulds(need, kids...)), stats(1))); got != want {
				t.Errorf("%d of %d: the code is %.300s", need, n, got)
			}
		}
	}
}

// P22.1: no skip leads over fewer than two instructions: one of a kid at least, and the one that joins it. The shortest, and some long ones, are all met.
func TestSkipsAreLongEnough(t *testing.T) {
	m := newMaker(222)
	met := kinds{}
	for range 20000 {
		pl := m.plan(3, 100)
		if m.Intn(2) == 0 {
			pl.Root = fixed(m.weight(), pl.Root)
		}
		p := mustProgram(t, pl, stats(3))
		code, err := isa.Decode(p.Code)
		if err != nil {
			t.Fatal(err)
		}
		for _, in := range code {
			if in.Op != api.OpMiss && in.Op != api.OpHit {
				continue
			}
			if in.A < 2 || in.A > math.MaxInt32 {
				t.Fatalf("a skip over %d instructions: %s", in.A, brief(p))
			}
			name, _ := isa.Name(in.Op)
			met.note(fmt.Sprintf("%s %d", name, in.A), in.A < 6)
			met.note(name+" many", in.A > 30)
		}
	}
	met.wantMany(t, 100, "miss 2", "miss 3", "miss 5", "miss many", "hit 2", "hit 5", "hit many")
}
