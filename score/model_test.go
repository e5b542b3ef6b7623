package score_test

import (
	"fmt"
	"math/big"
	"regexp"
	"slices"
	"strings"

	"concord/api"
	"concord/tokens"
)

// isLog tells whether n is the greatest number with 2^n <= x^256.
func isLog(x, n uint64) bool {
	power := new(big.Int).Exp(new(big.Int).SetUint64(x), big.NewInt(256), nil)
	low := new(big.Int).Lsh(big.NewInt(1), uint(n))
	high := new(big.Int).Lsh(big.NewInt(1), uint(n)+1)
	return low.Cmp(power) <= 0 && power.Cmp(high) < 0
}

// leastOfLog is the least number whose logarithm is n or more: the 256th root of 2^n, rounded up, by eight square roots.
func leastOfLog(n uint) *big.Int {
	root := new(big.Int).Lsh(big.NewInt(1), n)
	for range 8 {
		root.Sqrt(root)
	}
	if n%256 != 0 {
		root.Add(root, big.NewInt(1))
	}
	return root
}

// modelLog is the logarithm by the binary digits of the 256th power.
func modelLog(x *big.Int) int64 {
	return int64(new(big.Int).Exp(x, big.NewInt(256), nil).BitLen()) - 1
}

// modelIdf is the chapter's Idf, with numbers of any size.
func modelIdf(docs, df int) uint64 {
	all, some := big.NewInt(int64(docs)), big.NewInt(int64(df))
	if most := big.NewInt(2147483647); all.Cmp(most) > 0 {
		all = most
	}
	if some.Cmp(all) > 0 {
		some = all
	}
	if all.Sign() < 1 || some.Sign() < 1 {
		return 0
	}
	two := big.NewInt(2)
	above := new(big.Int).Add(new(big.Int).Mul(two, all), two)
	below := new(big.Int).Add(new(big.Int).Mul(two, some), big.NewInt(1))
	difference := modelLog(above) - modelLog(below)
	if difference == 0 {
		return 1
	}
	return uint64(difference)
}

// modelSat is the chapter's Sat, with numbers of any size.
func modelSat(freq, length, avg int) uint64 {
	bounded := func(n int) *big.Int {
		if n < 0 {
			return big.NewInt(0)
		}
		if n > 1048576 {
			return big.NewInt(1048576)
		}
		return big.NewInt(int64(n))
	}
	times := func(n int64, list ...*big.Int) *big.Int {
		product := big.NewInt(n)
		for _, x := range list {
			product.Mul(product, x)
		}
		return product
	}
	f, l, a := bounded(freq), bounded(length), bounded(avg)
	if a.Sign() == 0 {
		a = big.NewInt(1)
	}
	below := times(10, f, a)
	below.Add(below, times(3, a)).Add(below, times(9, l))
	return new(big.Int).Div(times(10240, f, a), below).Uint64()
}

// modelCapped is a number of any size, and Top where it is Top or more.
func modelCapped(x *big.Int) uint64 {
	top := new(big.Int).Lsh(big.NewInt(1), 63)
	if x.Cmp(top) >= 0 {
		return top.Uint64()
	}
	return x.Uint64()
}

// modelAdd is the chapter's Add.
func modelAdd(a, b uint64) uint64 {
	return modelCapped(new(big.Int).Add(new(big.Int).SetUint64(a), new(big.Int).SetUint64(b)))
}

// modelMul is the chapter's Mul.
func modelMul(a, b uint64) uint64 {
	return modelCapped(new(big.Int).Mul(new(big.Int).SetUint64(a), new(big.Int).SetUint64(b)))
}

// modelText is the chapter's Text: a 2^18th is 5^18 of 10^18ths.
func modelText(x uint64) string {
	text := fmt.Sprintf("%d.%018d", x>>18, x&(1<<18-1)*3814697265625)
	return strings.TrimSuffix(strings.TrimRight(text, "0"), ".")
}

// scoreForm is the form of a score's text, its size aside.
var scoreForm = regexp.MustCompile(`\A(0|[1-9][0-9]*)(\.[0-9]*[1-9])?\z`)

// modelParse is the chapter's Parse: the number, and whether there is one.
func modelParse(text string) (uint64, bool) {
	if !scoreForm.MatchString(text) {
		return 0, false
	}
	x, ok := new(big.Rat).SetString(text)
	if !ok {
		return 0, false
	}
	x.Mul(x, big.NewRat(1<<18, 1))
	if !x.IsInt() || !x.Num().IsUint64() {
		return 0, false
	}
	return x.Num().Uint64(), true
}

// modelGather is the chapter's Gather, over the tokens of the live documents.
func modelGather(s api.Schema, docs []api.Doc) api.Stats {
	st := api.Stats{Docs: len(docs)}
	for field := range s.Fields {
		sum := 0
		for _, d := range docs {
			sum += len(tokens.Field(s, field, d.Values))
		}
		st.Sums = append(st.Sums, sum)
	}
	return st
}

// modelDf is the chapter's Df, over the tokens of the live documents.
func modelDf(s api.Schema, docs []api.Doc, field int, term string) int {
	if field < 0 || field >= len(s.Fields) {
		return 0
	}
	n := 0
	for _, d := range docs {
		has := slices.ContainsFunc(tokens.Field(s, field, d.Values), func(t api.Token) bool {
			return t.Text == term
		})
		if has {
			n++
		}
	}
	return n
}
