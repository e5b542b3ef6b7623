package docset_test

import (
	"bytes"
	"math"
	"math/rand"
	"slices"
	"testing"

	"concord/api"
	"concord/docset"
)

// edgeSizes are sizes around a word, a byte and a block, and the ends of the range.
func edgeSizes() []int {
	return []int{0, 1, 2, 7, 8, 9, 63, 64, 65, 127, 128, 129, 191, 192, 193, 255, 256, 257, 319, 320, 321, 511, 512, 513, 700, 4096}
}

// outside are numbers that are no place of any set.
func outside() []int {
	return []int{math.MinInt, math.MinInt + 1, -1048577, -257, -256, -255, -64, -2, -1, 1048576, 1048577, 1 << 31, 1 << 32, 1<<62 + 5, math.MaxInt - 255, math.MaxInt - 1, math.MaxInt}
}

func must(t testing.TB) func(*docset.Set, error) *docset.Set {
	return func(s *docset.Set, err error) *docset.Set {
		t.Helper()
		if err != nil || s == nil {
			t.Fatalf("refused: %v", err)
		}
		return s
	}
}

// someMembers is a model of one of several kinds: thin, thick, of runs, of none, of all.
func someMembers(dice *rand.Rand, n int) model {
	m := make(model, n)
	most := []int{0, 2, 10, 50, 90, 98, 100}
	chance := most[dice.Intn(len(most))]
	for i := range m {
		if dice.Intn(30) == 0 {
			chance = most[dice.Intn(len(most))]
		}
		m[i] = dice.Intn(100) < chance
	}
	return m
}

// shuffled are the members in some order, some of them twice.
func shuffled(dice *rand.Rand, m model) []int {
	list := m.members()
	for _, i := range list {
		if dice.Intn(4) == 0 {
			list = append(list, i)
		}
	}
	dice.Shuffle(len(list), func(a, b int) { list[a], list[b] = list[b], list[a] })
	return list
}

func ofModel(t testing.TB, m model) *docset.Set {
	t.Helper()
	return must(t)(docset.Of(len(m), m.members()))
}

// checkAt asks everything that takes a number, for each of places.
func checkAt(t *testing.T, s *docset.Set, m model, places []int) {
	t.Helper()
	members := m.members()
	for _, i := range places {
		below, _ := slices.BinarySearch(members, i)
		if s.Has(i) != m.has(i) || s.Rank(i) != below {
			t.Fatalf("size %d, %d: Has %v, want %v; Rank %d, want %d", len(m), i, s.Has(i), m.has(i), s.Rank(i), below)
		}
		next, ok := s.Next(i)
		if ok != (below < len(members)) || ok && next != members[below] || !ok && next != 0 {
			t.Fatalf("size %d, %d: Next %d %v, members %v", len(m), i, next, ok, members)
		}
		member, ok := s.Select(i)
		if ok != (i >= 0 && i < len(members)) || ok && member != members[i] || !ok && member != 0 {
			t.Fatalf("size %d, %d: Select %d %v, members %v", len(m), i, member, ok, members)
		}
	}
}

// check holds every asking call of s against the model.
func check(t *testing.T, s *docset.Set, m model) {
	t.Helper()
	members := m.members()
	if s.Len() != len(m) || s.Count() != len(members) {
		t.Fatalf("Len %d, want %d; Count %d, want %d", s.Len(), len(m), s.Count(), len(members))
	}
	if !slices.Equal(s.Members(), members) || !slices.Equal(slices.Collect(s.All()), members) {
		t.Fatalf("size %d: Members %v, All %v, want %v", len(m), s.Members(), slices.Collect(s.All()), members)
	}
	if !slices.Equal(s.Runs(), m.runs()) {
		t.Fatalf("size %d: Runs %v, want %v", len(m), s.Runs(), m.runs())
	}
	if !bytes.Equal(s.Encode(), m.encode()) {
		t.Fatalf("size %d, members %v: Encode % x, want % x", len(m), members, s.Encode(), m.encode())
	}
	places := outside()
	for i := -3; i <= len(m)+3; i++ {
		places = append(places, i)
	}
	checkAt(t, s, m, places)
}

// P3.1, the chapter's example 1
func TestAskingAnExample(t *testing.T) {
	s := must(t)(docset.Of(10, []int{7, 2, 2, 3}))
	check(t, s, modelOf(10, 2, 3, 7))
	if s.Rank(3) != 1 || s.Rank(100) != 3 {
		t.Error("Rank", s.Rank(3), s.Rank(100))
	}
	if i, ok := s.Select(2); i != 7 || !ok {
		t.Error("Select(2)", i, ok)
	}
	if i, ok := s.Select(3); i != 0 || ok {
		t.Error("Select(3)", i, ok)
	}
	if i, ok := s.Next(4); i != 7 || !ok {
		t.Error("Next(4)", i, ok)
	}
	if i, ok := s.Next(8); i != 0 || ok {
		t.Error("Next(8)", i, ok)
	}
}

// P3.1
func TestNewAtEverySize(t *testing.T) {
	for _, n := range edgeSizes() {
		s := must(t)(docset.New(n))
		check(t, s, make(model, n))
		check(t, s.Not(), make(model, n).not())
	}
}

// P3.1
func TestWrongSizes(t *testing.T) {
	for _, n := range []int{math.MinInt, -1048576, -256, -2, -1, 1048577, 1048578, 1 << 32, math.MaxInt - 255, math.MaxInt} {
		if s, err := docset.New(n); s != nil || err != api.ErrRange {
			t.Errorf("New(%d): %v, %v", n, s, err)
		}
		for _, list := range [][]int{nil, {}, {0}, {-1}, {n}} {
			if s, err := docset.Of(n, list); s != nil || err != api.ErrRange {
				t.Errorf("Of(%d, %v): %v, %v", n, list, s, err)
			}
		}
	}
}

// P3.1
func TestOf(t *testing.T) {
	dice := rand.New(rand.NewSource(31))
	for _, n := range edgeSizes() {
		check(t, must(t)(docset.Of(n, nil)), make(model, n))
		check(t, must(t)(docset.Of(n, []int{})), make(model, n))
		for range 6 {
			m := someMembers(dice, n)
			check(t, must(t)(docset.Of(n, shuffled(dice, m))), m)
		}
		if n == 0 {
			continue
		}
		check(t, must(t)(docset.Of(n, []int{n - 1, 0})), modelOf(n, 0, n-1))
		check(t, must(t)(docset.Of(n, []int{n - 1, n - 1, n - 1})), modelOf(n, n-1))
	}
}

// P3.1
func TestOfRefuses(t *testing.T) {
	for _, n := range edgeSizes() {
		good := make([]int, min(n, 5))
		for i := range good {
			good[i] = n - 1 - i
		}
		for _, wrong := range append(outside(), n, n+1, n+255) {
			for at := range len(good) + 1 {
				list := slices.Insert(slices.Clone(good), at, wrong)
				if s, err := docset.Of(n, list); s != nil || err != api.ErrRange {
					t.Errorf("Of(%d, %v): %v, %v", n, list, s, err)
				}
			}
		}
	}
}

// P3.1
func TestAddAndRemoveOneByOne(t *testing.T) {
	for _, n := range []int{1, 2, 64, 65, 255, 256, 257, 300} {
		s := must(t)(docset.New(n))
		m := make(model, n)
		for i := range n {
			at := i * 7 % n
			if n%7 == 0 {
				at = i
			}
			news, err := s.Add(at)
			if news == m[at] || err != nil {
				t.Fatalf("size %d: Add(%d) = %v, %v", n, at, news, err)
			}
			m[at] = true
			if news, err := s.Add(at); news || err != nil {
				t.Fatalf("size %d: Add(%d) again = %v, %v", n, at, news, err)
			}
			if !s.Has(at) || s.Count() != i+1 {
				t.Fatalf("size %d: Add(%d) left Has %v, Count %d", n, at, s.Has(at), s.Count())
			}
		}
		check(t, s, m)
		for i := range n {
			if had, err := s.Remove(i); !had || err != nil {
				t.Fatalf("size %d: Remove(%d) = %v, %v", n, i, had, err)
			}
			if had, err := s.Remove(i); had || err != nil {
				t.Fatalf("size %d: Remove(%d) again = %v, %v", n, i, had, err)
			}
			if s.Has(i) || s.Count() != n-i-1 {
				t.Fatalf("size %d: Remove(%d) left Has %v, Count %d", n, i, s.Has(i), s.Count())
			}
		}
		check(t, s, make(model, n))
	}
}

// P3.1: a refused change changes nothing.
func TestAddAndRemoveRefuse(t *testing.T) {
	dice := rand.New(rand.NewSource(32))
	for _, n := range edgeSizes() {
		m := someMembers(dice, n)
		s := ofModel(t, m)
		for _, i := range append(outside(), n, n+1, n+63, n+255, n+256) {
			if news, err := s.Add(i); news || err != api.ErrRange {
				t.Errorf("size %d: Add(%d) = %v, %v", n, i, news, err)
			}
			if had, err := s.Remove(i); had || err != api.ErrRange {
				t.Errorf("size %d: Remove(%d) = %v, %v", n, i, had, err)
			}
		}
		check(t, s, m)
	}
}

// held is a set with what it ought to hold.
type held struct {
	s *docset.Set
	m model
}

// another is a new set made in one of all the ways from one there is, and one more.
func another(t *testing.T, dice *rand.Rand, a, b held) held {
	t.Helper()
	n := len(a.m)
	switch dice.Intn(8) {
	case 0:
		return held{must(t)(docset.New(n)), make(model, n)}
	case 1:
		m := someMembers(dice, n)
		return held{must(t)(docset.Of(n, shuffled(dice, m))), m}
	case 2:
		return held{must(t)(docset.Decode(a.s.Encode())), slices.Clone(a.m)}
	case 3:
		return held{a.s.Clone(), slices.Clone(a.m)}
	case 4:
		return held{must(t)(a.s.And(b.s)), a.m.joined(b.m, inBoth)}
	case 5:
		return held{must(t)(a.s.Or(b.s)), a.m.joined(b.m, inOne)}
	case 6:
		return held{must(t)(a.s.Minus(b.s)), a.m.joined(b.m, inFirst)}
	}
	return held{a.s.Not(), a.m.not()}
}

// change adds or removes a number, in the set and in the model.
func change(t *testing.T, dice *rand.Rand, x held) {
	t.Helper()
	if len(x.m) == 0 {
		return
	}
	i := dice.Intn(len(x.m))
	had := x.m[i]
	if dice.Intn(2) == 0 {
		if news, err := x.s.Add(i); news == had || err != nil {
			t.Fatalf("Add(%d) = %v, %v", i, news, err)
		}
		x.m[i] = true
		return
	}
	if was, err := x.s.Remove(i); was != had || err != nil {
		t.Fatalf("Remove(%d) = %v, %v", i, was, err)
	}
	x.m[i] = false
}

// P3.1: sets made of each other in all ways and changed in between, none of which sees what is done to another.
func TestSetsMadeInEveryWay(t *testing.T) {
	dice := rand.New(rand.NewSource(33))
	for _, n := range []int{0, 1, 9, 64, 255, 256, 257, 300, 520} {
		pool := []held{{must(t)(docset.New(n)), make(model, n)}}
		for len(pool) < 40 {
			a, b := pool[dice.Intn(len(pool))], pool[dice.Intn(len(pool))]
			pool = append(pool, another(t, dice, a, b))
			for range dice.Intn(20) {
				change(t, dice, pool[dice.Intn(len(pool))])
			}
		}
		for _, x := range pool {
			check(t, x.s, x.m)
		}
	}
}

// P3.1: the greatest size.
func TestTheGreatestSet(t *testing.T) {
	const n = 1048576
	s := must(t)(docset.New(n))
	if s.Len() != n || s.Count() != 0 || len(s.Members()) != 0 || len(s.Runs()) != 0 {
		t.Fatal("New", s.Len(), s.Count())
	}
	if _, ok := s.Next(0); ok {
		t.Error("Next of none")
	}
	full := s.Not()
	if full.Count() != n || !slices.Equal(full.Runs(), [][2]int{{0, n - 1}}) || len(full.Members()) != n {
		t.Error("Not of none", full.Count(), full.Runs())
	}
	for _, i := range []int{n - 1, 0, 256, 255, 4095, 524288} {
		if news, err := s.Add(i); !news || err != nil {
			t.Errorf("Add(%d) = %v, %v", i, news, err)
		}
	}
	if news, err := s.Add(n); news || err != api.ErrRange {
		t.Error("Add behind the end", news, err)
	}
	list := []int{0, 255, 256, 4095, 524288, n - 1}
	if !slices.Equal(s.Members(), list) || !slices.Equal(s.Runs(), [][2]int{{0, 0}, {255, 256}, {4095, 4095}, {524288, 524288}, {n - 1, n - 1}}) {
		t.Error("Members", s.Members(), "Runs", s.Runs())
	}
	for k, i := range list {
		if got, ok := s.Select(k); got != i || !ok || s.Rank(i) != k || s.Rank(i+1) != k+1 {
			t.Errorf("member %d: Select %d %v, Rank %d and %d", i, got, ok, s.Rank(i), s.Rank(i+1))
		}
		if got, ok := s.Next(i); got != i || !ok {
			t.Errorf("Next(%d) = %d, %v", i, got, ok)
		}
	}
	if got, ok := s.Next(524289); got != n-1 || !ok {
		t.Error("Next over many blocks", got, ok)
	}
	if _, ok := s.Next(n); ok {
		t.Error("Next behind the end")
	}
	if got, ok := full.Select(n - 1); got != n-1 || !ok || full.Rank(math.MaxInt) != n {
		t.Error("the last of all", got, ok, full.Rank(math.MaxInt))
	}
	if minus := must(t)(full.Minus(s)); minus.Count() != n-6 || !minus.Equal(s.Not()) {
		t.Error("Minus and Not", minus.Count())
	}
}

// P3.1: the greatest set, filled as it comes, against the model.
func TestAGreatSet(t *testing.T) {
	dice := rand.New(rand.NewSource(34))
	m := someMembers(dice, 1048576)
	s := must(t)(docset.Of(len(m), shuffled(dice, m)))
	members := m.members()
	if s.Count() != len(members) || !slices.Equal(s.Members(), members) || !slices.Equal(s.Runs(), m.runs()) {
		t.Error("Count, Members or Runs")
	}
	if !bytes.Equal(s.Encode(), m.encode()) {
		t.Error("Encode")
	}
	if back := must(t)(docset.Decode(s.Encode())); !back.Equal(s) || !s.Equal(back) {
		t.Error("there and back")
	}
	next, ok := s.Next(-1)
	for _, i := range members {
		if next != i || !ok {
			t.Fatalf("Next = %d, %v, want %d", next, ok, i)
		}
		next, ok = s.Next(i + 1)
	}
	if ok || next != 0 {
		t.Error("Next behind the last", next, ok)
	}
	for range 300 {
		k := dice.Intn(len(members))
		if i, ok := s.Select(k); i != members[k] || !ok || s.Rank(i) != k {
			t.Fatalf("Select(%d) = %d, %v", k, i, ok)
		}
	}
}

// P3.1: what is handed in isn't changed and isn't kept.
func TestOfKeepsNothing(t *testing.T) {
	room := []int{5, 3, 5, 1, 99, 98}
	list := room[:4]
	s := must(t)(docset.Of(8, list))
	if !slices.Equal(room, []int{5, 3, 5, 1, 99, 98}) {
		t.Error("Of has written into its list", room)
	}
	for i := range room {
		room[i] = 0
	}
	check(t, s, modelOf(8, 1, 3, 5))
}

// P3.1: answers are new memory, spare room included.
func TestAnswersShareNothing(t *testing.T) {
	m := modelOf(600, 1, 2, 3, 300, 599)
	s := ofModel(t, m)
	for range 2 {
		list, again := s.Members(), s.Members()
		runs, runsAgain := s.Runs(), s.Runs()
		form, formAgain := s.Encode(), s.Encode()
		for i := range list[:cap(list)] {
			list[:cap(list)][i] = -1
		}
		for i := range runs[:cap(runs)] {
			runs[:cap(runs)][i] = [2]int{-1, -1}
		}
		for i := range form[:cap(form)] {
			form[:cap(form)][i] = 255
		}
		if !slices.Equal(again, m.members()) || !slices.Equal(runsAgain, m.runs()) || !bytes.Equal(formAgain, m.encode()) {
			t.Error("an answer shows what was written into another")
		}
		check(t, s, m)
	}
}
