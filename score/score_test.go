package score_test

import (
	"math"
	"math/big"
	"math/rand"
	"slices"
	"testing"

	"concord/api"
	"concord/score"
)

const (
	// greatest is the greatest number of a word.
	greatest = math.MaxUint64
	// mostDocs is the greatest number of documents that counts.
	mostDocs = 2147483647
	// mostCount is the greatest frequency or length that counts.
	mostCount = 1048576
)

// words are 0, the ends, every power of 2 with its neighbours, and many others. They rise.
func words() []uint64 {
	list := []uint64{greatest, greatest - 1, 10, 100, 1000, 10000000000000000000, 12345678901234567890}
	for x := range uint64(300) {
		list = append(list, x)
	}
	for k := range 64 {
		list = append(list, 1<<k-1, 1<<k, 1<<k+1)
	}
	dice := rand.New(rand.NewSource(131))
	for range 500 {
		list = append(list, dice.Uint64()>>dice.Intn(64))
	}
	slices.Sort(list)
	return slices.Compact(list)
}

// P12.1: the chapter's examples, and others written out.
func TestLogExamples(t *testing.T) {
	for _, row := range []struct{ x, want uint64 }{
		{0, 0}, {1, 0}, {2, 256}, {3, 405}, {4, 512}, {5, 594}, {6, 661}, {7, 718}, {9, 811}, {10, 850}, {11, 885}, {12, 917}, {15, 1000},
		{22, 1141}, {100, 1700}, {1000, 2551}, {4095, 3071}, {4096, 3072}, {4097, 3072}, {999999999, 7653},
		{1<<32 - 1, 8191}, {1 << 32, 8192}, {1<<32 + 1, 8192}, {1<<63 - 1, 16127}, {1 << 63, 16128}, {1<<63 + 1, 16128},
		{10000000000000000000, 16157}, {12345678901234567890, 16235}, {greatest - 1, 16383}, {greatest, 16383},
	} {
		if n := score.Log(row.x); n != row.want {
			t.Errorf("Log(%d) is %d, not %d", row.x, n, row.want)
		}
	}
}

// P12.1
func TestLogIsTheGreatest(t *testing.T) {
	for _, x := range words() {
		if n := score.Log(x); x > 0 && !isLog(x, n) {
			t.Errorf("Log(%d) is %d", x, n)
		}
	}
}

// P12.1, P12.2: for every n, the logarithm reaches n just at the least number that may have it, and stays below n just ahead of it.
func TestLogAtEveryStep(t *testing.T) {
	for n := range uint(16384) {
		least := leastOfLog(n)
		if !least.IsUint64() {
			t.Fatal(n)
		}
		x := least.Uint64()
		if score.Log(x) < uint64(n) {
			t.Errorf("Log(%d) is %d, below %d", x, score.Log(x), n)
		}
		if x > 1 && score.Log(x-1) >= uint64(n) {
			t.Errorf("Log(%d) is %d, not below %d", x-1, score.Log(x-1), n)
		}
	}
	if leastOfLog(16384).IsUint64() {
		t.Error("a word has the logarithm 16384")
	}
}

// P12.2: at the powers of 2.
func TestLogOfPowers(t *testing.T) {
	for k := range uint64(64) {
		x := uint64(1) << k
		if score.Log(x) != 256*k {
			t.Errorf("Log(2^%d) is %d", k, score.Log(x))
		}
		if k > 0 && score.Log(x-1) >= 256*k {
			t.Errorf("Log(2^%d - 1) is %d", k, score.Log(x-1))
		}
		if k > 0 && (score.Log(x+1) < 256*k || score.Log(x+1) >= 256*(k+1)) {
			t.Errorf("Log(2^%d + 1) is %d", k, score.Log(x+1))
		}
	}
}

// P12.2
func TestLogRises(t *testing.T) {
	list := words()
	for x := range uint64(5000) {
		list = append(list, x, greatest-x)
	}
	slices.Sort(list)
	before := uint64(0)
	for _, x := range list {
		n := score.Log(x)
		if n < before {
			t.Errorf("Log(%d) is %d, below %d", x, n, before)
		}
		before = n
	}
}

// P12.2: products against the sums of the logarithms.
func TestLogOfProducts(t *testing.T) {
	hold := func(x, y uint64) bool {
		t.Helper()
		sum := score.Log(x) + score.Log(y)
		n := score.Log(x * y)
		if n != sum && n != sum+1 {
			t.Errorf("Log(%d x %d) is %d; those of the two come to %d", x, y, n, sum)
		}
		return n == sum+1
	}
	more := 0
	for x := range uint64(60) {
		for y := range uint64(60) {
			if hold(x+1, y+1) {
				more++
			}
		}
	}
	dice := rand.New(rand.NewSource(132))
	for range 3000 {
		x := dice.Uint64()>>dice.Intn(64) | 1
		y := max(1, dice.Uint64()%(greatest/x))
		if hold(x, y) {
			more++
		}
		hold(x, greatest/x)
		hold(greatest/x, x)
	}
	if more == 0 {
		t.Error("no product has one more")
	}
}

// P12.1: the chapter's examples, those of the whole, and others written out.
func TestIdfExamples(t *testing.T) {
	for _, row := range []struct {
		docs, df int
		want     uint64
	}{
		{1, 1, 107}, {10, 1, 736}, {0, 0, 0}, {5, 5, 32}, {5, 9, 32}, {2, 1, 256}, {2, 2, 67}, {3, 1, 363},
		{10, 5, 256}, {10, 10, 17}, {100, 1, 1555}, {100, 50, 256}, {100, 100, 2}, {4096, 1, 2923}, {1000000, 1000, 2551},
		{197, 197, 1}, {198, 198, 1}, {204, 204, 1}, {700, 700, 1}, {4096, 4096, 1}, {mostDocs, mostDocs, 1}, {mostDocs, mostDocs - 1, 1},
		{0, 1, 0}, {1, 0, 0}, {-1, -1, 0}, {-1, 1, 0}, {1, -1, 0}, {-5, 3, 0}, {-5, -9, 0}, {0, -1, 0}, {-1, 0, 0},
		{math.MinInt, 1, 0}, {1, math.MinInt, 0}, {math.MinInt, math.MinInt, 0}, {math.MinInt, math.MaxInt, 0}, {math.MaxInt, math.MinInt, 0}, {math.MaxInt, 0, 0},
		{1, 2, 107}, {1, math.MaxInt, 107}, {2, 3, 67}, {mostDocs - 1, 1, 7786}, {mostDocs, 1, 7787}, {mostDocs, 2, 7598}, {mostDocs, 1 << 30, 256},
		{mostDocs + 1, 1, 7787}, {mostDocs + 1, 2, 7598}, {1 << 40, 1, 7787}, {math.MaxInt, 1, 7787}, {math.MaxInt, 1 << 30, 256},
		{mostDocs, mostDocs + 1, 1}, {mostDocs + 1, mostDocs + 1, 1}, {math.MaxInt, math.MaxInt, 1}, {math.MaxInt, mostDocs, 1}, {math.MaxInt, math.MaxInt - 1, 1},
	} {
		if n := score.Idf(row.docs, row.df); n != row.want {
			t.Errorf("Idf(%d, %d) is %d, not %d", row.docs, row.df, n, row.want)
		}
	}
	if score.Idf(10, 1) != score.Log(22)-score.Log(3) || score.Idf(5, 9) != score.Log(12)-score.Log(11) {
		t.Error("Idf isn't the difference of the logarithms")
	}
}

// counts are numbers of documents, tokens and words of all sizes. They rise.
func counts() []int {
	list := []int{math.MinInt, math.MinInt + 1, -mostDocs, -mostCount, -2, -1, math.MaxInt - 1, math.MaxInt}
	for n := range 12 {
		list = append(list, n)
	}
	for k := range 62 {
		list = append(list, 1<<k-1, 1<<k, 1<<k+1)
	}
	dice := rand.New(rand.NewSource(133))
	for range 40 {
		list = append(list, dice.Int()>>dice.Intn(63))
	}
	slices.Sort(list)
	return slices.Compact(list)
}

// P12.1
func TestIdfAgainstTheModel(t *testing.T) {
	for _, docs := range counts() {
		for _, df := range counts() {
			if n, want := score.Idf(docs, df), modelIdf(docs, df); n != want {
				t.Errorf("Idf(%d, %d) is %d, not %d", docs, df, n, want)
			}
		}
	}
}

// holdIdfs holds how Idf goes over rising numbers of documents.
func holdIdfs(t *testing.T, list []int) {
	t.Helper()
	for i, docs := range list {
		for k, df := range list[:i+1] {
			n := score.Idf(docs, df)
			if n < 1 || n > 7787 {
				t.Errorf("Idf(%d, %d) is %d", docs, df, n)
			}
			if k < i && score.Idf(docs, list[k+1]) > n {
				t.Errorf("Idf(%d, %d) is above Idf(%d, %d)", docs, list[k+1], docs, df)
			}
			if i+1 < len(list) && score.Idf(list[i+1], df) < n {
				t.Errorf("Idf(%d, %d) is below Idf(%d, %d)", list[i+1], df, docs, df)
			}
		}
	}
}

// P12.3: over all small numbers, over numbers of all sizes, and over the greatest that count.
func TestIdfGoes(t *testing.T) {
	var small, last []int
	for n := range 260 {
		small = append(small, n+1)
	}
	for n := mostDocs - 30; n <= mostDocs+30; n++ {
		last = append(last, n)
	}
	all := slices.DeleteFunc(counts(), func(n int) bool {
		return n < 1
	})
	for _, list := range [][]int{small, last, all} {
		holdIdfs(t, list)
	}
}

// P12.1: the chapter's examples, those of the whole, and others written out.
func TestSatExamples(t *testing.T) {
	for _, row := range []struct {
		freq, length, avg int
		want              uint64
	}{
		{1, 1, 1, 465}, {2, 1, 1, 640}, {1, 0, 0, 787}, {0, 5, 5, 0}, {1, 2, 3, 538}, {2, 4, 3, 585}, {1, 4, 3, 409}, {1, 2, 2, 465}, {1, 1, 0, 465},
		{0, 0, 0, 0}, {0, mostCount, 0, 0}, {0, 0, mostCount, 0}, {10, 100, 50, 846}, {3, 7, 11, 793}, {100, 4096, 4096, 1011}, {1, 92, 9, 97},
		{1, 1136, 1, 1}, {1, 1137, 1, 0}, {922, 0, 1, 1023},
		{-1, 5, 5, 0}, {math.MinInt, 0, 0, 0}, {1, -1, 0, 787}, {1, math.MinInt, 0, 787}, {1, 0, -1, 787}, {1, 1, -1, 465}, {1, 1, math.MinInt, 465}, {1, -7, -7, 787},
		{1, mostCount, 1, 0}, {1, mostCount, 0, 0}, {1, mostCount, mostCount, 465}, {mostCount, mostCount, 1, 538}, {mostCount, mostCount, mostCount, 1023},
		{mostCount, 0, 0, 1023}, {mostCount, 0, mostCount, 1023}, {mostCount + 1, mostCount, 1, 538}, {2 * mostCount, mostCount, 1, 538},
		{mostCount, mostCount + 1, 1, 538}, {mostCount, 2 * mostCount, 1, 538}, {1, mostCount, 2 * mostCount, 465}, {1, 2 * mostCount, mostCount, 465},
		{math.MaxInt, math.MaxInt, 1, 538}, {math.MaxInt, math.MaxInt, math.MaxInt, 1023}, {1, math.MaxInt, math.MaxInt, 465}, {math.MaxInt, 0, math.MaxInt, 1023},
		{math.MaxInt, math.MinInt, math.MinInt, 1023}, {math.MinInt, math.MaxInt, math.MaxInt, 0},
	} {
		if n := score.Sat(row.freq, row.length, row.avg); n != row.want {
			t.Errorf("Sat(%d, %d, %d) is %d, not %d", row.freq, row.length, row.avg, n, row.want)
		}
	}
}

// few are numbers of tokens around those that count. They rise.
func few() []int {
	list := []int{math.MinInt, -3, -1, 0, 1, 2, 3, 4, 5, 7, 9, 10, 11, 30, 100, 341, 1137, 4096, 65535, 700000, mostCount - 1, mostCount, mostCount + 1, 1 << 31, 1 << 40, math.MaxInt}
	dice := rand.New(rand.NewSource(134))
	for range 10 {
		list = append(list, dice.Intn(mostCount)>>dice.Intn(20))
	}
	slices.Sort(list)
	return slices.Compact(list)
}

// holdSat holds one Sat against the model, below 1024, and against those of the numbers that come next.
func holdSat(t *testing.T, freq, length, avg, freq2, length2, avg2 int) {
	t.Helper()
	n := score.Sat(freq, length, avg)
	if n != modelSat(freq, length, avg) || n >= 1024 {
		t.Errorf("Sat(%d, %d, %d) is %d, not %d", freq, length, avg, n, modelSat(freq, length, avg))
	}
	if score.Sat(freq2, length, avg) < n {
		t.Errorf("Sat(%d, %d, %d) falls where freq grows to %d", freq, length, avg, freq2)
	}
	if score.Sat(freq, length2, avg) > n {
		t.Errorf("Sat(%d, %d, %d) rises where length grows to %d", freq, length, avg, length2)
	}
	if score.Sat(freq, length, avg2) < n {
		t.Errorf("Sat(%d, %d, %d) falls where avg grows to %d", freq, length, avg, avg2)
	}
}

// P12.1, P12.4: over all small numbers, and over numbers of all sizes.
func TestSatGoes(t *testing.T) {
	for f := -1; f < 16; f++ {
		for l := -1; l < 24; l++ {
			for a := -1; a < 24; a++ {
				holdSat(t, f, l, a, f+1, l+1, a+1)
			}
		}
	}
	list := few()
	next := func(i int) int {
		return list[min(i+1, len(list)-1)]
	}
	for i, f := range list {
		for j, l := range list {
			for k, a := range list {
				holdSat(t, f, l, a, next(i), next(j), next(k))
			}
		}
	}
}

// P12.1: the chapter's examples, and others written out.
func TestSumsExamples(t *testing.T) {
	const top = 9223372036854775808
	if api.Top != top {
		t.Fatal(api.Top)
	}
	for _, row := range []struct{ a, b, sum, product uint64 }{
		{0, 0, 0, 0}, {3, 5, 8, 15}, {3, 4, 7, 12}, {1, 0, 1, 0}, {1, 1, 2, 1},
		{top, 5, top, top}, {top, 0, top, 0}, {top, 1, top, top}, {top, top, top, top}, {top + 1, 0, top, 0}, {top + 1, 1, top, top},
		{top - 1, 0, top - 1, 0}, {top - 1, 1, top, top - 1}, {top - 2, 1, top - 1, top - 2}, {top - 1, 2, top, top}, {top - 1, top - 1, top, top},
		{greatest, 0, top, 0}, {greatest, 1, top, top}, {greatest, 2, top, top}, {greatest, greatest, top, top}, {greatest, top, top, top},
		{1 << 62, 1 << 62, top, top}, {1 << 62, 1<<62 - 1, top - 1, top}, {1 << 62, 1, 1<<62 + 1, 1 << 62}, {1 << 62, 2, 1<<62 + 2, top}, {1<<62 - 1, 2, 1<<62 + 1, top - 2},
		{1 << 31, 1 << 31, 1 << 32, 1 << 62}, {1 << 31, 1 << 32, 3 << 31, top}, {1 << 32, 1 << 32, 1 << 33, top}, {1 << 40, 1 << 40, 1 << 41, top}, {1 << 33, 1 << 32, 3 << 32, top},
		{1<<32 + 1, 1<<32 - 1, 1 << 33, top}, {3037000499, 3037000499, 6074000998, 9223372030926249001}, {3037000500, 3037000500, 6074001000, top}, {3037000499, 3037000500, 6074000999, 9223372033963249500},
		{7, 1317624576693539401, 1317624576693539408, top - 1}, {7, 1317624576693539402, 1317624576693539409, top},
	} {
		for _, pair := range [][2]uint64{{row.a, row.b}, {row.b, row.a}} {
			if n := score.Add(pair[0], pair[1]); n != row.sum {
				t.Errorf("Add(%d, %d) is %d, not %d", pair[0], pair[1], n, row.sum)
			}
			if n := score.Mul(pair[0], pair[1]); n != row.product {
				t.Errorf("Mul(%d, %d) is %d, not %d", pair[0], pair[1], n, row.product)
			}
		}
	}
}

// holdSums holds Add and Mul of two numbers against the model.
func holdSums(t *testing.T, a, b uint64) {
	t.Helper()
	if n, want := score.Add(a, b), modelAdd(a, b); n != want {
		t.Errorf("Add(%d, %d) is %d, not %d", a, b, n, want)
	}
	if n, want := score.Mul(a, b), modelMul(a, b); n != want {
		t.Errorf("Mul(%d, %d) is %d, not %d", a, b, n, want)
	}
}

// P12.1: every pair of many numbers, and pairs whose sums and products lie around Top and around the end of a word.
func TestSumsAgainstTheModel(t *testing.T) {
	for _, a := range words() {
		for _, b := range words() {
			holdSums(t, a, b)
		}
		for d := range uint64(4) {
			holdSums(t, a, api.Top-a+d-2)
			holdSums(t, a, d-2-a)
			holdSums(t, a, api.Top/max(1, a)+d-2)
			holdSums(t, a, greatest/max(1, a)+d-2)
		}
	}
}

// FuzzFormulae holds every formula against its model.
func FuzzFormulae(f *testing.F) {
	f.Add(uint64(3), uint64(5), 10, 1, 2)
	f.Add(uint64(greatest), uint64(api.Top), mostDocs+1, mostCount+1, -1)
	f.Add(uint64(1)<<31, uint64(1)<<32, 0, math.MinInt, math.MaxInt)
	f.Fuzz(func(t *testing.T, a, b uint64, i, j, k int) {
		for _, x := range []uint64{a, b} {
			if n := score.Log(x); (x > 0 && !isLog(x, n)) || (x == 0 && n != 0) {
				t.Errorf("Log(%d) is %d", x, n)
			}
		}
		if n := score.Log(a); a > 0 && big.NewInt(0).SetUint64(a).Cmp(leastOfLog(uint(n))) < 0 {
			t.Errorf("Log(%d) is %d", a, n)
		}
		if n, want := score.Idf(i, j), modelIdf(i, j); n != want {
			t.Errorf("Idf(%d, %d) is %d, not %d", i, j, n, want)
		}
		holdSat(t, i, j, k, max(i, i+1), max(j, j+1), max(k, k+1))
		holdSums(t, a, b)
	})
}
