package cursor_test

import (
	"math"
	"math/rand"
	"slices"
	"testing"

	"concord/cursor"
)

// holdFreq holds PhraseFreq against its definition.
func holdFreq(t testing.TB, lists [][]int, offs []int, slop int) int {
	t.Helper()
	got := cursor.PhraseFreq(lists, offs, slop)
	if want := modelFreq(lists, offs, slop); got != want {
		t.Fatalf("PhraseFreq(%v, %v, %d) is %d, not %d", lists, offs, slop, got, want)
	}
	return got
}

// P9.1: the chapter's examples, and their kin.
func TestPhraseFreqExamples(t *testing.T) {
	const far = 2147483646
	for _, row := range []struct {
		lists [][]int
		offs  []int
		slop  int
		want  int
	}{
		{[][]int{{1, 5, 9}, {2, 10}}, []int{0, 1}, 0, 2},
		{[][]int{{1, 5, 9}, {4, 10}}, []int{0, 1}, 2, 3},
		{[][]int{{4}, {4}}, []int{0, 1}, 1, 1},
		{[][]int{{4}, {4}}, []int{0, 1}, 0, 0},
		{[][]int{{7, 3, 7}}, []int{5}, 9, 2},
		{[][]int{{7, 3, 7}}, []int{5}, 0, 2},
		// One position serves two words.
		{[][]int{{4}, {4}}, []int{0, 0}, 0, 1},
		{[][]int{{1, 2, 3}, {1, 2, 3}}, []int{0, 1}, 0, 2},
		{[][]int{{1, 2, 3}, {1, 2, 3}}, []int{0, 1}, 1, 3},
		// A word far ahead of the others and one behind them.
		{[][]int{{0}, {10}}, []int{0, 1}, 8, 0},
		{[][]int{{0}, {10}}, []int{0, 1}, 9, 1},
		{[][]int{{10}, {0}}, []int{0, 1}, 10, 0},
		{[][]int{{10}, {0}}, []int{0, 1}, 11, 1},
		{[][]int{{5}, {5}, {5}}, []int{2, 0, 1}, 1, 0},
		{[][]int{{5}, {5}, {5}}, []int{2, 0, 1}, 2, 1},
		// At the ends of the limits.
		{[][]int{{far}}, []int{0}, 0, 1},
		{[][]int{{0}}, []int{far}, 0, 1},
		{[][]int{{0, far}}, []int{far}, 2147483647, 2},
		{[][]int{{0}, {far}}, []int{0, 0}, 2147483645, 0},
		{[][]int{{0}, {far}}, []int{0, 0}, 2147483646, 1},
		{[][]int{{0}, {far}}, []int{0, 0}, 2147483647, 1},
		{[][]int{{0}, {far}}, []int{far, 0}, 2147483647, 0},
		{[][]int{{0, far}, {far}}, []int{far, 0}, 2147483647, 1},
		{[][]int{{0}, {1}}, []int{far, 0}, 2147483647, 1},
		{[][]int{{0}, {2}}, []int{far, 0}, 2147483647, 0},
	} {
		if got := cursor.PhraseFreq(row.lists, row.offs, row.slop); got != row.want {
			t.Errorf("PhraseFreq(%v, %v, %d) is %d, not %d", row.lists, row.offs, row.slop, got, row.want)
		}
		if got := modelFarFreq(row.lists, row.offs, row.slop); got != row.want {
			t.Errorf("the model of PhraseFreq(%v, %v, %d) is %d, not %d", row.lists, row.offs, row.slop, got, row.want)
		}
	}
}

// P9.1: arguments of which no phrase is found.
func TestPhraseFreqOfNothing(t *testing.T) {
	good := [][]int{{1, 5}, {2, 6}}
	for _, row := range []struct {
		what  string
		lists [][]int
		offs  []int
		slop  int
	}{
		{"no list", nil, nil, 0},
		{"no list, much slop", [][]int{}, []int{}, 2147483647},
		{"no list, an offset", nil, []int{0}, 5},
		{"a list, no offset", [][]int{{1}}, nil, 5},
		{"an offset too few", good, []int{0}, 0},
		{"an offset too many", good, []int{0, 1, 2}, 0},
		{"a list too many", [][]int{{1, 5}, {2, 6}, {1}}, []int{0, 1}, 0},
		{"an empty list alone", [][]int{{}}, []int{0}, 5},
		{"nil alone", [][]int{nil}, []int{0}, 5},
		{"an empty list first", [][]int{{}, {1}}, []int{0, 1}, 2147483647},
		{"an empty list last", [][]int{{1}, {2}, nil}, []int{0, 1, 2}, 2147483647},
		{"empty lists", [][]int{{}, {}}, []int{0, 1}, 2147483647},
		{"slop -1", good, []int{0, 1}, -1},
		{"the least slop", good, []int{0, 1}, math.MinInt},
		{"slop 2147483648", good, []int{0, 1}, 2147483648},
		{"the greatest slop", good, []int{0, 1}, math.MaxInt},
		{"an offset of -1", good, []int{0, -1}, 100},
		{"the least offset", good, []int{math.MinInt, 1}, 100},
		{"an offset of 2147483647", good, []int{2147483647, 1}, 2147483647},
		{"the greatest offset", good, []int{0, math.MaxInt}, 2147483647},
		{"a position of -1", [][]int{{1, 5}, {-1, 2, 6}}, []int{0, 1}, 0},
		{"the least position", [][]int{{math.MinInt, 1, 5}, {2, 6}}, []int{0, 1}, 0},
		{"a position of 2147483647", [][]int{{1, 5}, {2, 6, 2147483647}}, []int{0, 1}, 0},
		{"the greatest position", [][]int{{1, math.MaxInt}, {2, 6}}, []int{0, 1}, 0},
	} {
		if got := cursor.PhraseFreq(row.lists, row.offs, row.slop); got != 0 {
			t.Errorf("with %s PhraseFreq(%v, %v, %d) is %d", row.what, row.lists, row.offs, row.slop, got)
		}
	}
	if holdFreq(t, good, []int{0, 1}, 0) != 2 {
		t.Error("the good lists aren't")
	}
}

// subsets are all lists of unlike numbers below n, rising.
func subsets(n int) [][]int {
	var all [][]int
	for mask := range 1 << n {
		var list []int
		for x := range n {
			if mask>>x%2 == 1 {
				list = append(list, x)
			}
		}
		all = append(all, list)
	}
	return all
}

// P9.1: all small phrases of two words, and of three.
func TestPhraseFreqOfSmallLists(t *testing.T) {
	few := subsets(4)
	for _, a := range few {
		for _, b := range few {
			for offs := range 9 {
				for slop := -1; slop < 5; slop++ {
					holdFreq(t, [][]int{a, b}, []int{offs / 3, offs % 3}, slop)
				}
			}
			for _, c := range subsets(3) {
				for slop := range 3 {
					holdFreq(t, [][]int{a, b, c}, []int{0, 1, 2}, slop)
					holdFreq(t, [][]int{c, a, b}, []int{2, 0, 2}, slop)
				}
			}
		}
	}
	for _, a := range subsets(6) {
		for offset := range 8 {
			for slop := range 4 {
				holdFreq(t, [][]int{a}, []int{offset}, slop)
			}
		}
	}
}

// madePhrase has so many words at most, with positions below most in any order, some of them twice.
func madePhrase(dice *rand.Rand, words, most int) ([][]int, []int) {
	var lists [][]int
	var offs []int
	for range dice.Intn(words + 1) {
		var list []int
		for range dice.Intn(12) {
			list = append(list, dice.Intn(most))
			if dice.Intn(4) == 0 {
				list = append(list, list[dice.Intn(len(list))])
			}
		}
		lists = append(lists, list)
		offs = append(offs, dice.Intn(1+most/3))
	}
	return lists, offs
}

// P9.1: lists in any order, with positions that stand twice.
func TestPhraseFreqOfMadeLists(t *testing.T) {
	dice := rand.New(rand.NewSource(19))
	found := 0
	for range 20000 {
		lists, offs := madePhrase(dice, 5, 5+dice.Intn(40))
		slop := dice.Intn(1 << dice.Intn(6))
		found += holdFreq(t, lists, offs, slop)
		for i := range lists {
			slices.Sort(lists[i])
		}
		holdFreq(t, lists, offs, slop)
		for i := range lists {
			slices.Reverse(lists[i])
		}
		holdFreq(t, lists, offs, slop)
	}
	if found < 1000 {
		t.Errorf("only %d beginnings were found", found)
	}
}

// P9.1: positions, offsets and slop at their limits and beyond.
func TestPhraseFreqOfFarLists(t *testing.T) {
	dice := rand.New(rand.NewSource(20))
	numbers := []int{0, 1, 2, 3, 1000, 1073741823, 2147483643, 2147483644, 2147483645, 2147483646}
	beyond := []int{-1, 2147483647, 2147483648, math.MinInt, math.MaxInt, -2147483648, 1 << 32, 1<<32 + 1}
	pick := func() int {
		if dice.Intn(60) == 0 {
			return beyond[dice.Intn(len(beyond))]
		}
		return numbers[dice.Intn(len(numbers))]
	}
	found := 0
	for range 50000 {
		var lists [][]int
		var offs []int
		for range 1 + dice.Intn(3) {
			var list []int
			for range 1 + dice.Intn(6) {
				list = append(list, pick())
			}
			lists, offs = append(lists, list), append(offs, pick())
		}
		slop := pick()
		if dice.Intn(5) == 0 {
			slop = 2147483647
		}
		got := cursor.PhraseFreq(lists, offs, slop)
		if want := modelFarFreq(lists, offs, slop); got != want {
			t.Fatalf("PhraseFreq(%v, %v, %d) is %d, not %d", lists, offs, slop, got, want)
		}
		found += got
	}
	if found < 1000 {
		t.Errorf("only %d beginnings were found", found)
	}
}

// P9.4: of one list it is the number of its unlike positions.
func TestPhraseFreqOfOneList(t *testing.T) {
	dice := rand.New(rand.NewSource(94))
	for range 2000 {
		var list []int
		unlike := map[int]bool{}
		for range dice.Intn(30) {
			x := dice.Intn(1 << dice.Intn(31))
			list = append(list, x)
			unlike[x] = true
		}
		offset := dice.Intn(1 << dice.Intn(31))
		for _, slop := range []int{0, 1, dice.Intn(1 << 31), 2147483647} {
			if got := cursor.PhraseFreq([][]int{list}, []int{offset}, slop); got != len(unlike) {
				t.Fatalf("PhraseFreq(%v, %d, %d) is %d, not %d", list, offset, slop, got, len(unlike))
			}
		}
	}
}

// P9.4: it doesn't fall where slop grows.
func TestPhraseFreqGrowsWithSlop(t *testing.T) {
	dice := rand.New(rand.NewSource(95))
	grew := 0
	for range 3000 {
		lists, offs := madePhrase(dice, 4, 40)
		last := 0
		for _, slop := range append(rangeOf(60), 1000, 2147483646, 2147483647) {
			got := cursor.PhraseFreq(lists, offs, slop)
			if got < last {
				t.Fatalf("PhraseFreq(%v, %v, %d) is %d, with less slop %d", lists, offs, slop, got, last)
			}
			grew += got - last
			last = got
		}
	}
	if grew == 0 {
		t.Error("it never grew")
	}
}

// P9.4: words exchanged together with their offsets, and the same number added to every offset.
func TestPhraseFreqOfExchangedWords(t *testing.T) {
	dice := rand.New(rand.NewSource(96))
	for range 5000 {
		lists, offs := madePhrase(dice, 5, 40)
		slop := dice.Intn(30)
		want := holdFreq(t, lists, offs, slop)
		for _, by := range []int{1, 7, 1 << 20, 2147483646 - 40} {
			more := slices.Clone(offs)
			for i := range more {
				more[i] += by
			}
			if got := cursor.PhraseFreq(lists, more, slop); got != want {
				t.Fatalf("PhraseFreq(%v, %v, %d) is %d, with %d less %d", lists, more, slop, got, by, want)
			}
		}
		dice.Shuffle(len(lists), func(i, k int) {
			lists[i], lists[k] = lists[k], lists[i]
			offs[i], offs[k] = offs[k], offs[i]
		})
		if got := cursor.PhraseFreq(lists, offs, slop); got != want {
			t.Fatalf("PhraseFreq(%v, %v, %d) is %d, in another order %d", lists, offs, slop, got, want)
		}
	}
}

// P9.1: many words with many positions are gone over in little time.
func TestPhraseFreqOfManyWords(t *testing.T) {
	var lists [][]int
	var offs []int
	for word := range 1000 {
		var list []int
		for k := range 300 {
			list = append(list, 5000*k+word)
		}
		lists, offs = append(lists, list), append(offs, word)
	}
	if got := cursor.PhraseFreq(lists, offs, 0); got != 300 {
		t.Errorf("it begins at %d places, not at 300", got)
	}
	lists[999] = lists[999][1:]
	if got := cursor.PhraseFreq(lists, offs, 4999); got != 299 {
		t.Errorf("it begins at %d places, not at 299", got)
	}
	if got := cursor.PhraseFreq(lists, offs, 5000); got != 300 {
		t.Errorf("it begins at %d places, not at 300", got)
	}
}

// Rule 5: the lists and the offsets stay as they are, spare room included.
func TestPhraseFreqChangesNothing(t *testing.T) {
	room := []int{9, 5, 5, 1, 70, 60, 50, 2, 10, 6, 40, 30}
	before := slices.Clone(room)
	offsRoom := []int{3, 4, 9, 8}
	outer := [][]int{room[0:4], room[7:10], {1}, nil}
	lists, offs := outer[:2], offsRoom[:2]
	for slop := range 5 {
		holdFreq(t, lists, offs, slop)
	}
	if !slices.Equal(room, before) || !slices.Equal(offsRoom, []int{3, 4, 9, 8}) {
		t.Errorf("the lists are now %v, the offsets %v", room, offsRoom)
	}
	if len(outer[2]) != 1 || outer[3] != nil || &outer[0][0] != &room[0] || len(outer[1]) != 3 {
		t.Errorf("the list of lists is now %v", outer)
	}
	shared := []int{8, 1, 4}
	if got := holdFreq(t, [][]int{shared, shared, shared}, []int{0, 0, 0}, 0); got != 3 || !slices.Equal(shared, []int{8, 1, 4}) {
		t.Errorf("one list thrice: %d, and the list is %v", got, shared)
	}
}

func FuzzPhrase(f *testing.F) {
	f.Add(int64(1), 3, 20, 4)
	f.Add(int64(2), 1, 5, 0)
	f.Add(int64(3), 6, 300, 100)
	f.Fuzz(func(t *testing.T, seed int64, words, most, slop int) {
		dice := rand.New(rand.NewSource(seed))
		lists, offs := madePhrase(dice, int(uint(words)%8), 1+int(uint(most)%500))
		holdFreq(t, lists, offs, slop%600)
	})
}
