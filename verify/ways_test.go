package verify_test

import (
	"math"
	"slices"
	"testing"

	"concord/api"
	"concord/verify"
)

// drawn are good programs, short ones and long ones.
func drawn(seed int64) []api.Prog {
	m := newMaker(seed)
	var out []api.Prog
	for range 3000 {
		out = append(out, m.program(12))
	}
	for range 300 {
		out = append(out, m.program(80))
	}
	for range 10 {
		out = append(out, m.program(3000))
	}
	return out
}

// goOn goes through a good program's instructions by the chapter's table, and says that each one that it comes to has the height told. Of a skip, skips tells whether it is taken.
func goOn(t *testing.T, p api.Prog, list []api.Instr, heights []int, skips func(i int) bool) {
	t.Helper()
	at, height := 0, 0
	for step := 1; ; step++ {
		if step > len(list) || at >= len(list) {
			t.Fatalf("%s: no end after %d instructions", brief(p), len(list))
		}
		if height != heights[at] {
			t.Fatalf("%s: the instruction %d is come to with %d, not with %d", brief(p), at, height, heights[at])
		}
		in := list[at]
		if in.Op == api.OpEnd {
			return
		}
		least, more := effect(in)
		if least.Int64() > int64(height) {
			t.Fatalf("%s: the instruction %d lacks a value", brief(p), at)
		}
		if isSkip(in) && skips(at) {
			at += int(in.A)
		}
		at, height = at+1, height+int(more.Int64())
	}
}

// numbered gives the skips of a program their numbers, in their order.
func numbered(list []api.Instr) map[int]int {
	numbers := map[int]int{}
	for i, in := range list {
		if isSkip(in) {
			numbers[i] = len(numbers)
		}
	}
	return numbers
}

// P21.2: all ways through programs of few skips, and many ways through the others.
func TestWays(t *testing.T) {
	m := newMaker(220)
	whole := 0
	for _, p := range drawn(221) {
		list := decoded(p)
		heights, err := verify.Heights(p)
		if err != nil || len(heights) != len(list) || heights[0] != 0 || heights[len(list)-1] != 1 {
			t.Fatalf("Heights of %s are %.300v and %v", brief(p), heights, err)
		}
		goOn(t, p, list, heights, func(int) bool { return false })
		goOn(t, p, list, heights, func(int) bool { return true })
		numbers := numbered(list)
		if len(numbers) > 8 {
			for range 30 {
				goOn(t, p, list, heights, func(int) bool { return m.Intn(3) == 0 })
			}
			continue
		}
		whole++
		for way := range 1 << len(numbers) {
			goOn(t, p, list, heights, func(i int) bool { return way>>numbers[i]&1 == 1 })
		}
	}
	if whole < 2000 {
		t.Errorf("only %d programs were gone through by all ways", whole)
	}
}

// P21.2: of the chapter's good examples too.
func TestWaysOfTheExamples(t *testing.T) {
	for _, text := range []string{"all; end", "term 0 5; all; and; end", "term 0 5; miss 2; all; and; end", "term 0 5; hit 0; end", "all; all; all; least 3 2; end"} {
		p := plain(text)
		list := decoded(p)
		heights, err := verify.Heights(p)
		if err != nil || heights[0] != 0 || heights[len(list)-1] != 1 {
			t.Fatalf("Heights of %s are %v and %v", text, heights, err)
		}
		for way := range 2 {
			goOn(t, p, list, heights, func(int) bool { return way == 1 })
		}
	}
}

// wantProof says that a program has this Proof.
func wantProof(t *testing.T, p api.Prog, want api.Proof) {
	t.Helper()
	if got, err := verify.Check(p); got != want || err != nil {
		t.Fatalf("Check of %s is %v and %v, not %v", brief(p), got, err, want)
	}
}

// P21.3: Height is at most Length, and the greatest height ahead of or behind an instruction, by whatever way.
func TestHeightAndLength(t *testing.T) {
	m := newMaker(230)
	for _, p := range drawn(231) {
		list := decoded(p)
		proof, err := verify.Check(p)
		heights, _ := verify.Heights(p)
		if err != nil || proof.Length != len(list) || proof.Height > proof.Length || proof.Height != slices.Max(heights) {
			t.Fatalf("Check of %s is %v and %v", brief(p), proof, err)
		}
		for range 5 {
			goOn(t, p, list, heights, func(i int) bool { return heights[i] <= proof.Height && m.Intn(2) == 0 })
		}
	}
	for n := range 200 {
		p := oneMore(1, append(repeated(api.Instr{Op: api.OpAll}, n+1), api.Instr{Op: api.OpLeast, A: uint64(n + 1), B: 1})...)
		wantProof(t, p, api.Proof{Length: n + 3, Height: n + 1})
	}
}

// P21.3: further fields, cursors and phrases behind the others, and another Drive, leave the Proof and the heights as they are.
func TestFurther(t *testing.T) {
	m := newMaker(232)
	for _, p := range drawn(233) {
		proof, err := verify.Check(p)
		heights, _ := verify.Heights(p)
		if err != nil {
			t.Fatalf("%s is refused", brief(p))
		}
		for range 5 {
			q := m.further(p)
			wantProof(t, q, proof)
			if got, err := verify.Heights(q); !slices.Equal(got, heights) || err != nil {
				t.Fatalf("Heights of %s are %.300v and %v, not %.300v", brief(q), got, err, heights)
			}
		}
	}
}

// P21.3: fields one by one up to MaxFields, with cursors and phrases of the new ones; one more isn't good.
func TestFurtherFields(t *testing.T) {
	for _, p := range drawn(234)[:300] {
		proof, err := verify.Check(p)
		if err != nil {
			t.Fatalf("%s is refused", brief(p))
		}
		for len(p.Avgs) < api.MaxFields {
			n := len(p.Avgs)
			p.Avgs = append(slices.Clone(p.Avgs), math.MaxInt)
			wantProof(t, p, proof)
			p.Cursors = append(slices.Clone(p.Cursors), api.Leaf{Field: n, Term: "z"}, api.Leaf{Field: n})
			wantProof(t, p, proof)
			last := len(p.Cursors) - 1
			p.Nears = append(slices.Clone(p.Nears), api.Near{Cursors: []int{last, last - 1}, Offs: []int{0, api.EndDoc - 1}, Slop: api.EndDoc - 1})
			wantProof(t, p, proof)
		}
		p.Avgs = append(slices.Clone(p.Avgs), 0)
		wantBroken(t, "a field too many", p, 1)
	}
}

// P21.3: every set of cursors may drive a program, and all documents may.
func TestEveryDrive(t *testing.T) {
	m := newMaker(235)
	for _, p := range drawn(236)[:300] {
		proof, err := verify.Check(p)
		if err != nil {
			t.Fatalf("%s is refused", brief(p))
		}
		for len(p.Cursors) < 6 {
			p.Cursors = append(slices.Clone(p.Cursors), api.Leaf{Field: m.Intn(len(p.Avgs)), Term: m.term()})
		}
		p.All, p.Drive = true, nil
		wantProof(t, p, proof)
		p.All = false
		for set := range 1 << 6 {
			p.Drive = nil
			for i := range 6 {
				if set>>i&1 == 1 {
					p.Drive = append(p.Drive, i)
				}
			}
			wantProof(t, p, proof)
		}
	}
}
