package docset_test

import (
	"bytes"
	"math/rand"
	"slices"
	"testing"

	"concord/api"
	"concord/docset"
)

// checkAlgebra holds every joining call over two sets of one size against the models; the sets must stay as they are.
func checkAlgebra(t *testing.T, a, b held) {
	t.Helper()
	formA, formB := a.s.Encode(), b.s.Encode()
	check(t, must(t)(a.s.And(b.s)), a.m.joined(b.m, inBoth))
	check(t, must(t)(a.s.Or(b.s)), a.m.joined(b.m, inOne))
	check(t, must(t)(a.s.Minus(b.s)), a.m.joined(b.m, inFirst))
	check(t, a.s.Not(), a.m.not())
	check(t, a.s.Clone(), a.m)
	if same := slices.Equal(a.m, b.m); a.s.Equal(b.s) != same || b.s.Equal(a.s) != same {
		t.Fatalf("Equal of %v and %v", a.m.members(), b.m.members())
	}
	if !bytes.Equal(formA, a.s.Encode()) || !bytes.Equal(formB, b.s.Encode()) {
		t.Fatal("the sets don't stay as they are")
	}
}

// checkRules holds the chapter's rules of the algebra, without the model.
func checkRules(t *testing.T, a, b *docset.Set) {
	t.Helper()
	and, or, minus := must(t)(a.And(b)), must(t)(a.Or(b)), must(t)(a.Minus(b))
	rows := []struct {
		name     string
		one, two *docset.Set
	}{
		{"Not of Not", a.Not().Not(), a},
		{"Not of And", and.Not(), must(t)(a.Not().Or(b.Not()))},
		{"Not of Or", or.Not(), must(t)(a.Not().And(b.Not()))},
		{"Minus", minus, must(t)(a.And(b.Not()))},
		{"And both ways", and, must(t)(b.And(a))},
		{"Or both ways", or, must(t)(b.Or(a))},
		{"Minus and And", must(t)(minus.Or(and)), a},
	}
	for _, x := range rows {
		if !x.one.Equal(x.two) || !x.two.Equal(x.one) || !bytes.Equal(x.one.Encode(), x.two.Encode()) {
			t.Fatalf("%s: of %v and %v: %v, %v", x.name, a.Runs(), b.Runs(), x.one.Runs(), x.two.Runs())
		}
	}
	if or.Count()+and.Count() != a.Count()+b.Count() || a.Count()+a.Not().Count() != a.Len() {
		t.Fatalf("counts: Or %d, And %d, the two %d and %d, Not %d", or.Count(), and.Count(), a.Count(), b.Count(), a.Not().Count())
	}
}

// subset is the model of n numbers whose members are the bits of pattern.
func subset(n, pattern int) model {
	m := make(model, n)
	for i := range m {
		m[i] = pattern>>i&1 == 1
	}
	return m
}

// P3.4: every two sets of few places.
func TestAlgebraOverSmallSets(t *testing.T) {
	for n := range 4 {
		for one := range 1 << n {
			for two := range 1 << n {
				a, b := subset(n, one), subset(n, two)
				x, y := held{ofModel(t, a), a}, held{ofModel(t, b), b}
				checkAlgebra(t, x, y)
				checkRules(t, x.s, y.s)
			}
		}
	}
}

// P3.1, P3.4
func TestAlgebraOverManySets(t *testing.T) {
	dice := rand.New(rand.NewSource(41))
	for _, n := range edgeSizes()[:25] {
		for range 3 {
			a, b := someMembers(dice, n), someMembers(dice, n)
			x, y := held{ofModel(t, a), a}, held{ofModel(t, b), b}
			checkAlgebra(t, x, y)
			checkRules(t, x.s, y.s)
		}
	}
}

// P3.4: the greatest size.
func TestAlgebraOverGreatSets(t *testing.T) {
	dice := rand.New(rand.NewSource(42))
	a, b := ofModel(t, someMembers(dice, 1048576)), ofModel(t, someMembers(dice, 1048576))
	checkRules(t, a, b)
	checkRules(t, b, a)
	checkRules(t, a, a)
}

// P3.4: a set with itself.
func TestAlgebraOfASetWithItself(t *testing.T) {
	dice := rand.New(rand.NewSource(43))
	for _, n := range []int{0, 1, 64, 255, 256, 257, 600} {
		m := someMembers(dice, n)
		s := ofModel(t, m)
		checkAlgebra(t, held{s, m}, held{s, m})
		checkRules(t, s, s)
		if minus := must(t)(s.Minus(s)); minus.Count() != 0 || minus.Len() != n {
			t.Errorf("size %d: Minus of itself has %v", n, minus.Members())
		}
		both := must(t)(s.And(s))
		if both == s || must(t)(s.Or(s)) == s || s.Clone() == s {
			t.Error("a set that ought to be new is the same")
		}
		if !s.Equal(s) || !both.Equal(s) {
			t.Error("Equal of itself")
		}
	}
}

// P3.4
func TestAlgebraRefuses(t *testing.T) {
	sizes := []int{0, 1, 255, 256, 257, 512, 1048576}
	for _, n := range sizes {
		s := must(t)(docset.New(n)).Not()
		others := []*docset.Set{nil}
		for _, o := range sizes {
			if o != n {
				others = append(others, must(t)(docset.New(o)), must(t)(docset.New(o)).Not())
			}
		}
		for _, o := range others {
			for name, call := range map[string]func(*docset.Set) (*docset.Set, error){"And": s.And, "Or": s.Or, "Minus": s.Minus} {
				if x, err := call(o); x != nil || err != api.ErrSize {
					t.Errorf("size %d: %s: %v, %v", n, name, x, err)
				}
			}
			if s.Equal(o) {
				t.Errorf("size %d: Equal to another size, or to nil", n)
			}
			if o != nil && (o.Count() != 0 && o.Count() != o.Len()) {
				t.Errorf("size %d: an operand has changed", n)
			}
		}
		if s.Count() != n {
			t.Errorf("size %d: the set has changed", n)
		}
	}
}

// P3.1: alike are sets of one size with the same members, however they came to them.
func TestEqual(t *testing.T) {
	a := must(t)(docset.Of(300, []int{1, 256, 299}))
	b := must(t)(docset.New(300)).Not()
	for i := range 300 {
		if i != 1 && i != 256 && i != 299 {
			b.Remove(i)
		}
	}
	if !a.Equal(b) || !b.Equal(a) {
		t.Error("alike sets aren't Equal")
	}
	for _, i := range []int{0, 1, 255, 256, 299} {
		if had := b.Has(i); had {
			b.Remove(i)
		} else {
			b.Add(i)
		}
		if a.Equal(b) || b.Equal(a) {
			t.Errorf("Equal though unlike at %d", i)
		}
		if a.Has(i) {
			b.Add(i)
		} else {
			b.Remove(i)
		}
	}
	if !a.Equal(b) {
		t.Error("alike again, and not Equal")
	}
	if a.Equal(nil) || must(t)(docset.New(0)).Equal(nil) {
		t.Error("Equal to nil")
	}
}

// P3.1: what is done to a set isn't seen in one made of it, nor the other way.
func TestNewSetsStandAlone(t *testing.T) {
	m, o := modelOf(520, 1, 70, 256, 519), modelOf(520, 1, 71, 300)
	ways := map[string]func(a, b *docset.Set) *docset.Set{
		"Clone": func(a, b *docset.Set) *docset.Set { return a.Clone() },
		"And":   func(a, b *docset.Set) *docset.Set { return must(t)(a.And(b)) },
		"Or":    func(a, b *docset.Set) *docset.Set { return must(t)(a.Or(b)) },
		"Minus": func(a, b *docset.Set) *docset.Set { return must(t)(a.Minus(b)) },
		"Not":   func(a, b *docset.Set) *docset.Set { return a.Not() },
	}
	for name, way := range ways {
		a, b := ofModel(t, m), ofModel(t, o)
		made := way(a, b)
		was := made.Members()
		for i := range 520 {
			a.Add(i)
			b.Remove(i)
		}
		if !slices.Equal(made.Members(), was) {
			t.Errorf("%s: the new set shows what was done to the old ones", name)
		}
		a, b = ofModel(t, m), ofModel(t, o)
		made = way(a, b)
		for i := range 520 {
			made.Add(i)
		}
		made.Remove(1)
		if !slices.Equal(a.Members(), m.members()) || !slices.Equal(b.Members(), o.members()) {
			t.Errorf("%s: an old set shows what was done to the new one", name)
		}
	}
}

// checkInverse is the chapter's word on Rank, Select and the runs, without the model.
func checkInverse(t *testing.T, s *docset.Set) {
	t.Helper()
	for _, i := range s.Members() {
		if back, ok := s.Select(s.Rank(i)); back != i || !ok {
			t.Fatalf("Select(Rank(%d)) = %d, %v", i, back, ok)
		}
	}
	for k := range s.Count() {
		i, ok := s.Select(k)
		if !ok || s.Rank(i) != k || !s.Has(i) {
			t.Fatalf("Rank(Select(%d)): %d, %v; Has %v", k, i, ok, s.Has(i))
		}
	}
	var told []int
	for _, run := range s.Runs() {
		if s.Has(run[0]-1) || s.Has(run[1]+1) || run[0] > run[1] {
			t.Fatalf("the run %v is no whole one", run)
		}
		for i := run[0]; i <= run[1]; i++ {
			told = append(told, i)
		}
	}
	if !slices.Equal(told, s.Members()) {
		t.Fatalf("the runs hold %v, the members are %v", told, s.Members())
	}
}

// P3.3
func TestRankAndSelectAreInverse(t *testing.T) {
	for n := range 11 {
		for pattern := range 1 << n {
			checkInverse(t, ofModel(t, subset(n, pattern)))
		}
	}
	dice := rand.New(rand.NewSource(44))
	for _, n := range edgeSizes() {
		for range 4 {
			s := ofModel(t, someMembers(dice, n))
			checkInverse(t, s)
			checkInverse(t, s.Not())
		}
	}
	// Runs that cross the borders of words and of blocks, and end at the last place.
	for _, n := range []int{64, 65, 256, 257, 512, 513, 768} {
		s := must(t)(docset.New(n)).Not()
		checkInverse(t, s)
		for _, i := range []int{0, 63, 64, 255, 256, 511, 512, n - 1} {
			s.Remove(min(i, n-1))
			checkInverse(t, s)
			checkInverse(t, s.Not())
		}
	}
}
