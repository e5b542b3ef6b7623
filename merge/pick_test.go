package merge_test

import (
	"math"
	"math/big"
	"math/rand"
	"slices"
	"testing"

	"concord/api"
	"concord/merge"
)

// P11.4: the chapter's examples, and rows at the edges of what it says.
func TestPickRows(t *testing.T) {
	const most, least = math.MaxInt, math.MinInt
	for _, row := range []struct {
		sizes    []int
		fan      int
		first, n int
	}{
		{[]int{1, 1, 1, 1}, 2, 0, 2}, {[]int{2, 1, 1}, 2, 1, 2}, {[]int{4, 1}, 2, 0, 0}, {[]int{4, 1, 4}, 3, 0, 3}, {[]int{9, 1, 1}, 3, 0, 0},
		{[]int{4096, 1}, 2, 0, 0}, {[]int{-5, 0}, 2, 0, 2}, {nil, 2, 0, 0}, {[]int{1, 1}, 1, 0, 0}, {[]int{1}, 2, 0, 0},
		// A fan below 2, and fewer sizes than the fan.
		{[]int{1, 1, 1}, 0, 0, 0}, {[]int{1, 1, 1}, -1, 0, 0}, {[]int{1, 1, 1}, -3, 0, 0}, {[]int{1, 1, 1}, least, 0, 0}, {nil, 0, 0, 0}, {nil, 1, 0, 0}, {[]int{}, least, 0, 0},
		{[]int{1, 1, 1}, 4, 0, 0}, {[]int{1, 1, 1}, 3, 0, 3}, {[]int{1, 1, 1}, most, 0, 0}, {[]int{1, 1}, 3, 0, 0}, {nil, most, 0, 0},
		// Sizes below 1 have the level 0 and add nothing.
		{[]int{0, 0}, 2, 0, 2}, {[]int{-1, 1}, 2, 0, 2}, {[]int{least, least}, 2, 0, 2}, {[]int{least, 4096}, 2, 0, 0}, {[]int{least, 2, 2}, 2, 1, 2}, {[]int{-1, 2048, 2048, -1}, 4, 0, 0},
		{[]int{-1, 1365, 1365, 1365, -1}, 5, 0, 5}, {[]int{-4096, 4096, 4096}, 3, 0, 0}, {[]int{least, 4096, -3}, 3, 0, 0}, {[]int{-9, 2, 4, 4, -9}, 2, 2, 2},
		// Levels change at the powers of the fan.
		{[]int{1, 2}, 2, 0, 0}, {[]int{2, 3}, 2, 0, 2}, {[]int{3, 4}, 2, 0, 0}, {[]int{4, 7}, 2, 0, 2}, {[]int{7, 8}, 2, 0, 0}, {[]int{8, 15}, 2, 0, 2}, {[]int{1, 3, 2}, 3, 0, 0}, {[]int{2, 1, 2}, 3, 0, 3},
		{[]int{8, 3, 8}, 3, 0, 3}, {[]int{9, 8, 8}, 3, 0, 0}, {[]int{9, 26, 8}, 3, 0, 3}, {[]int{27, 26, 26}, 3, 0, 0}, {[]int{1023, 2047}, 2, 0, 0}, {[]int{1024, 2047}, 2, 0, 2}, {[]int{2047, 2048}, 2, 0, 0},
		// More than half of the sizes, and just half.
		{[]int{4, 4, 1, 1}, 4, 0, 0}, {[]int{4, 4, 4, 1}, 4, 0, 4}, {[]int{1, 1, 1, 4}, 4, 0, 0}, {[]int{5, 5, 5, 1, 1}, 5, 0, 5}, {[]int{5, 5, 1, 1, 1}, 5, 0, 0},
		// The sum at its bound and just above.
		{[]int{2048, 2048}, 2, 0, 2}, {[]int{2048, 2049}, 2, 0, 0}, {[]int{2049, 2048}, 2, 0, 0}, {[]int{1366, 1365, 1365}, 3, 0, 3}, {[]int{1366, 1366, 1365}, 3, 0, 0}, {[]int{2048, 2049, 2047}, 2, 0, 0}, {[]int{2049, 2048, 2048}, 2, 1, 2},
		// The least level ahead of the first place, and the first of one level.
		{[]int{4, 4, 2, 2, 1, 1}, 2, 4, 2}, {[]int{4, 4, 2, 2, 1}, 2, 2, 2}, {[]int{4, 4, 8, 8}, 2, 0, 2}, {[]int{8, 8, 4, 4}, 2, 2, 2}, {[]int{9, 2, 2, 9, 3, 3}, 2, 1, 2}, {[]int{1, 4, 4, 4, 1, 1}, 3, 0, 3}, {[]int{1, 9, 9, 9, 1, 1, 1}, 3, 4, 3},
		{[]int{4096, 0, 0, 4096, 1, 1}, 2, 1, 2}, {[]int{3000, 3000, 1000, 1030}, 2, 0, 0}, {[]int{3000, 3000, 1024, 1030}, 2, 2, 2},
		// Numbers near the ends of an int: no sum and no power goes round.
		{[]int{most, most}, 2, 0, 0}, {[]int{most, most, most, most}, 4, 0, 0}, {[]int{most, 1, 1}, 2, 1, 2}, {[]int{1, 1, most}, 2, 0, 2}, {[]int{most, 2, most, 1, 1, most}, 2, 3, 2}, {[]int{most, most, 2}, 3, 0, 0},
		{[]int{most, least}, 2, 0, 0}, {[]int{most - 1, most, 5, 6, least, most}, 2, 2, 2}, {[]int{1 << 62, 1 << 62, 1 << 62, 1 << 62}, 4, 0, 0}, {[]int{1 << 62, 1 << 62, 3, 3}, 2, 2, 2}, {[]int{1 << 32, 1 << 32, 0, 0}, 2, 2, 2},
	} {
		if first, n := merge.Pick(row.sizes, row.fan); first != row.first || n != row.n {
			t.Errorf("Pick(%v, %d) is %d, %d, not %d, %d", row.sizes, row.fan, first, n, row.first, row.n)
		}
	}
}

// holdPick holds Pick against its model.
func holdPick(t *testing.T, sizes []int, fan int) (int, int) {
	t.Helper()
	first, n := merge.Pick(sizes, fan)
	if wantFirst, want := modelPick(sizes, fan); first != wantFirst || n != want {
		t.Fatalf("Pick(%v, %d) is %d, %d, not %d, %d", sizes, fan, first, n, wantFirst, want)
	}
	return first, n
}

// P11.4: all short lists of sizes around the edges.
func TestPickOfAllShortLists(t *testing.T) {
	edges := []int{math.MinInt, -1, 0, 1, 2, 3, 4, 8, 9, 1365, 2047, 2048, 2049, 4096, 4097, math.MaxInt}
	lists := [][]int{nil}
	for from := 0; len(lists[from]) < 3; from++ {
		for _, size := range edges {
			lists = append(lists, append(slices.Clone(lists[from]), size))
		}
	}
	for _, sizes := range lists {
		for fan := -1; fan <= 4; fan++ {
			holdPick(t, sizes, fan)
		}
		holdPick(t, sizes, math.MinInt)
		holdPick(t, sizes, math.MaxInt)
	}
}

// P11.4: all lists of seven small sizes.
func TestPickOfSmallSizes(t *testing.T) {
	small := []int{1, 2, 3, 4}
	for i := range 1 << 14 {
		sizes := make([]int, 7)
		for k := range sizes {
			sizes[k] = small[i>>(2*k)&3]
		}
		for fan := 2; fan <= 5; fan++ {
			holdPick(t, sizes, fan)
		}
	}
}

// madeSize is a size of any kind.
func madeSize(dice *rand.Rand) int {
	switch dice.Intn(8) {
	case 0:
		return -dice.Intn(1 << dice.Intn(40))
	case 1:
		return dice.Intn(1 << dice.Intn(60))
	case 2:
		return []int{math.MinInt, math.MaxInt, api.MaxDocs, api.MaxDocs + 1, api.MaxDocs / 2}[dice.Intn(5)]
	}
	return dice.Intn(1 << dice.Intn(12))
}

// madeSizes are n sizes.
func madeSizes(dice *rand.Rand, n int) []int {
	sizes := make([]int, n)
	for i := range sizes {
		sizes[i] = madeSize(dice)
	}
	return sizes
}

// P11.4
func TestPickOfMadeSizes(t *testing.T) {
	dice := rand.New(rand.NewSource(141))
	for range 3000 {
		sizes := madeSizes(dice, dice.Intn(30))
		holdPick(t, sizes, 2+dice.Intn(7))
		holdPick(t, sizes, len(sizes)-dice.Intn(2))
	}
}

// sumOf is the sum of sizes, each below 0 taken as 0.
func sumOf(sizes []int) *big.Int {
	sum := new(big.Int)
	for _, size := range sizes {
		sum.Add(sum, big.NewInt(int64(max(size, 0))))
	}
	return sum
}

// holdMerging merges sizes as Pick says until it says none, and answers what is left.
func holdMerging(t *testing.T, sizes []int, fan int) []int {
	t.Helper()
	before := sumOf(sizes)
	for {
		first, n := holdPick(t, sizes, fan)
		if first == 0 && n == 0 {
			return sizes
		}
		if n != fan || n < 2 || first < 0 || first > len(sizes)-n {
			t.Fatalf("Pick(%v, %d) is %d, %d", sizes, fan, first, n)
		}
		one := sumOf(sizes[first : first+n])
		if one.Cmp(big.NewInt(api.MaxDocs)) > 0 {
			t.Fatalf("Pick(%v, %d) is %d, %d: %v documents in one", sizes, fan, first, n, one)
		}
		next := slices.Concat(sizes[:first], []int{int(one.Int64())}, sizes[first+n:])
		if len(next) >= len(sizes) || sumOf(next).Cmp(before) != 0 {
			t.Fatalf("merging %v as Pick says makes %v", sizes, next)
		}
		sizes = next
	}
}

// P11.4: merging as it says, again and again.
func TestPickAgainAndAgain(t *testing.T) {
	dice := rand.New(rand.NewSource(142))
	for range 400 {
		holdMerging(t, madeSizes(dice, dice.Intn(40)), 2+dice.Intn(5))
	}
	for _, row := range []struct {
		n, size, fan int
		left         []int
	}{
		{8, 1, 2, []int{8}}, {7, 1, 2, []int{4, 2, 1}}, {27, 1, 3, []int{27}}, {4, 1024, 2, []int{4096}}, {6, 1024, 2, []int{4096, 2048}}, {9, 0, 3, []int{0}}, {4, -7, 2, []int{0}}, {3, 2049, 2, []int{2049, 2049, 2049}},
	} {
		sizes := slices.Repeat([]int{row.size}, row.n)
		if left := holdMerging(t, sizes, row.fan); !slices.Equal(left, row.left) {
			t.Errorf("%d times %d by %d come to %v, not %v", row.n, row.size, row.fan, left, row.left)
		}
	}
}

// P11.4, rule 1: a long list with a great fan is gone through in little time.
func TestPickOfManySizes(t *testing.T) {
	const many = 1 << 20
	sizes := make([]int, many)
	sizes[0], sizes[many-1] = 4000, 4000
	for _, row := range []struct {
		fan, first, n int
	}{
		{2, 1, 2}, {4000, 1, 4000}, {4001, 0, 4001}, {many / 2, 0, many / 2}, {many - 1, 0, many - 1}, {many, 0, 0}, {many + 1, 0, 0},
	} {
		if first, n := merge.Pick(sizes, row.fan); first != row.first || n != row.n {
			t.Errorf("of a fan of %d: %d, %d, not %d, %d", row.fan, first, n, row.first, row.n)
		}
	}
	for _, size := range []int{api.MaxDocs, api.MaxDocs + 1, many, math.MaxInt} {
		sizes := make([]int, 5000)
		sizes[2000] = size
		want := [2]int{}
		if size == api.MaxDocs {
			want[1] = 5000
		}
		if first, n := merge.Pick(sizes, 5000); [2]int{first, n} != want {
			t.Errorf("of %d among noughts: %d, %d, not %v", size, first, n, want)
		}
	}
	for _, size := range []int{math.MaxInt, math.MaxInt / many * 2, api.MaxDocs, 1} {
		if first, n := merge.Pick(slices.Repeat([]int{size}, many), many); first != 0 || n != 0 {
			t.Errorf("of %d times %d: %d, %d", many, size, first, n)
		}
	}
}

// Rule 5: the sizes stay, spare room included.
func TestPickLeavesTheSizes(t *testing.T) {
	sizes := []int{-5, 4, 4, math.MaxInt, 1, 1, 77, 78}
	given := slices.Clone(sizes)
	if first, n := merge.Pick(sizes[:6], 2); first != 4 || n != 2 || !slices.Equal(sizes, given) {
		t.Errorf("Pick answers %d, %d and leaves %v", first, n, sizes)
	}
}

// FuzzPick goes on with sizes told by bytes.
func FuzzPick(f *testing.F) {
	f.Add([]byte{1, 1, 1, 1}, 2)
	f.Add([]byte{200, 1, 0, 210, 255, 128}, 3)
	f.Fuzz(func(t *testing.T, b []byte, fan int) {
		var sizes []int
		for _, x := range b[:min(len(b), 40)] {
			sizes = append(sizes, int(int8(x))<<(x%60))
		}
		holdPick(t, sizes, fan)
		if fan >= 2 {
			holdMerging(t, sizes, fan)
		}
	})
}
