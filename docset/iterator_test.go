package docset_test

import (
	"iter"
	"math/rand"
	"slices"
	"testing"

	"concord/docset"
)

// upTo are the first most that the iterator tells; it stops it there.
func upTo(seq iter.Seq[int], most int) []int {
	var list []int
	if most == 0 {
		return list
	}
	for i := range seq {
		list = append(list, i)
		if len(list) == most {
			break
		}
	}
	return list
}

// P3.1
func TestAllAnyNumberOfTimes(t *testing.T) {
	m := modelOf(700, 0, 5, 63, 64, 255, 256, 257, 400, 511, 512, 699)
	members := m.members()
	all := ofModel(t, m).All()
	for most := range len(members) + 2 {
		want := members[:min(most, len(members))]
		if got := upTo(all, most); !slices.Equal(got, want) {
			t.Errorf("the first %d: %v, want %v", most, got, want)
		}
		if got := slices.Collect(all); !slices.Equal(got, members) {
			t.Errorf("gone over again behind a stop at %d: %v", most, got)
		}
	}
}

// P3.1
func TestAllOfNone(t *testing.T) {
	for _, n := range []int{0, 1, 256, 1000} {
		for i := range must(t)(docset.New(n)).All() {
			t.Errorf("the set of %d places without members tells %d", n, i)
		}
	}
}

// P3.1: an iterator inside of itself, and beside another of the same set.
func TestAllInsideAll(t *testing.T) {
	s := must(t)(docset.Of(300, []int{2, 70, 256, 299}))
	members := s.Members()
	all, other := s.All(), s.All()
	var outer []int
	for i := range all {
		outer = append(outer, i)
		if got := slices.Collect(all); !slices.Equal(got, members) {
			t.Errorf("inside, at %d: %v", i, got)
		}
		if got := upTo(other, 2); !slices.Equal(got, members[:2]) {
			t.Errorf("another, at %d: %v", i, got)
		}
	}
	if !slices.Equal(outer, members) {
		t.Error("outside", outer)
	}
}

// P3.1: what is added and removed behind the call isn't told.
func TestAllTellsWhatWasThere(t *testing.T) {
	dice := rand.New(rand.NewSource(35))
	for _, n := range []int{1, 64, 255, 256, 257, 600} {
		x := held{must(t)(docset.New(n)), make(model, n)}
		for range 20 {
			for range n / 4 {
				change(t, dice, x)
			}
			was := x.m.members()
			all := x.s.All()
			for range 10 {
				change(t, dice, x)
			}
			if got := slices.Collect(all); !slices.Equal(got, was) {
				t.Fatalf("size %d: All %v, want %v", n, got, was)
			}
			check(t, x.s, x.m)
		}
	}
}

// P3.1: what is added and removed between its steps isn't told either, in this going over nor in the next.
func TestAllWhileTheSetChanges(t *testing.T) {
	s := must(t)(docset.Of(600, []int{3, 4, 100, 255, 256, 500}))
	was := s.Members()
	all := s.All()
	for range 3 {
		var got []int
		for i := range all {
			got = append(got, i)
			s.Remove(i)
			for next := range 600 {
				if next%5 == i%5 {
					s.Add(next)
				} else {
					s.Remove(next)
				}
			}
		}
		if !slices.Equal(got, was) {
			t.Errorf("All %v, want %v", got, was)
		}
	}
	// The last step was at 500.
	for i := range 600 {
		if s.Has(i) != (i%5 == 0) {
			t.Fatalf("behind the iterator: Has(%d) is %v", i, s.Has(i))
		}
	}
}

// P3.1: an iterator pulled step by step, with the set emptied in between.
func TestAllPulled(t *testing.T) {
	s := must(t)(docset.Of(300, []int{1, 2, 290}))
	next, stop := iter.Pull(s.All())
	defer stop()
	for _, want := range []int{1, 2, 290} {
		if i, ok := next(); i != want || !ok {
			t.Errorf("%d %v, want %d", i, ok, want)
		}
		s.Remove(want)
		s.Remove(290)
	}
	if i, ok := next(); ok {
		t.Error("a further one", i)
	}
	if s.Count() != 0 {
		t.Error("left", s.Members())
	}
}
