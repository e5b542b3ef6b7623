package codec_test

import (
	"bytes"
	"math"
	"math/big"
	"math/rand"
	"testing"

	"concord/codec"
)

// signed are numbers of both signs: small ones, the ends of the range, and each power of two with its neighbours.
func signed() []int64 {
	list := []int64{math.MinInt64, math.MinInt64 + 1, -65, -64, -63, 63, 64, 65, math.MaxInt64 - 1, math.MaxInt64}
	for i := int64(-300); i <= 300; i++ {
		list = append(list, i)
	}
	for k := range 63 {
		for d := int64(-1); d <= 1; d++ {
			list = append(list, 1<<k+d, -1<<k+d)
		}
	}
	return list
}

// unsigned are small numbers, the ends of the range, and each power of two with its neighbours.
func unsigned() []uint64 {
	list := []uint64{math.MaxUint64 - 1, math.MaxUint64}
	for i := uint64(0); i <= 300; i++ {
		list = append(list, i)
	}
	for k := range 64 {
		list = append(list, 1<<k-1, 1<<k, 1<<k+1)
	}
	return list
}

// zigOf is the document's sentence, beyond any wrap-round.
func zigOf(v int64) *big.Int {
	x := big.NewInt(v)
	if v >= 0 {
		return x.Mul(x, big.NewInt(2))
	}
	x.Mul(x, big.NewInt(-2))
	return x.Sub(x, big.NewInt(1))
}

// zagOf is the document's sentence, beyond any wrap-round.
func zagOf(u uint64) *big.Int {
	half := new(big.Int).SetUint64(u / 2)
	if u%2 == 0 {
		return half
	}
	half.Neg(half)
	return half.Sub(half, big.NewInt(1))
}

// P1.1
func TestZigAndZag(t *testing.T) {
	for _, v := range signed() {
		u := codec.Zig(v)
		if new(big.Int).SetUint64(u).Cmp(zigOf(v)) != 0 {
			t.Errorf("Zig(%d) = %d, want %s", v, u, zigOf(v))
		}
		if back := codec.Zag(u); back != v {
			t.Errorf("Zag(Zig(%d)) = %d", v, back)
		}
	}
	for _, u := range unsigned() {
		v := codec.Zag(u)
		if big.NewInt(v).Cmp(zagOf(u)) != 0 {
			t.Errorf("Zag(%d) = %d, want %s", u, v, zagOf(u))
		}
		if back := codec.Zig(v); back != u {
			t.Errorf("Zig(Zag(%d)) = %d", u, back)
		}
	}
	dice := rand.New(rand.NewSource(1))
	for range 10000 {
		u := dice.Uint64() >> dice.Intn(64)
		if codec.Zig(codec.Zag(u)) != u || codec.Zag(codec.Zig(int64(u))) != int64(u) {
			t.Fatalf("Zig and Zag at %d aren't each other's inverse", u)
		}
	}
}

// P1.1
func TestZigAtTheEnds(t *testing.T) {
	rows := []struct {
		v int64
		u uint64
	}{
		{0, 0}, {-1, 1}, {1, 2}, {-2, 3}, {2, 4}, {-65, 129},
		{math.MaxInt64, math.MaxUint64 - 1}, {math.MinInt64, math.MaxUint64},
	}
	for _, x := range rows {
		if codec.Zig(x.v) != x.u || codec.Zag(x.u) != x.v {
			t.Errorf("Zig(%d) = %d, Zag(%d) = %d", x.v, codec.Zig(x.v), x.u, codec.Zag(x.u))
		}
	}
}

// P1.1
func TestUvarintLen(t *testing.T) {
	if codec.UvarintLen(0) != 1 || codec.UvarintLen(math.MaxUint64) != 10 {
		t.Error("UvarintLen at the ends", codec.UvarintLen(0), codec.UvarintLen(math.MaxUint64))
	}
	// The first number that no longer has n bytes is 2^(7n).
	for n := 1; n <= 9; n++ {
		next := uint64(1) << (7 * n)
		if codec.UvarintLen(next-1) != n || codec.UvarintLen(next) != n+1 {
			t.Errorf("UvarintLen around %d: %d, %d", next, codec.UvarintLen(next-1), codec.UvarintLen(next))
		}
	}
	for _, v := range unsigned() {
		w := codec.NewWriter()
		w.Uvarint(v)
		if codec.UvarintLen(v) != w.Len() {
			t.Errorf("UvarintLen(%d) = %d, written with %d", v, codec.UvarintLen(v), w.Len())
		}
	}
}

func TestConcat(t *testing.T) {
	rows := []struct {
		parts [][]byte
		want  string
	}{
		{nil, ""},
		{[][]byte{}, ""},
		{[][]byte{nil}, ""},
		{[][]byte{nil, {}, nil}, ""},
		{[][]byte{{1}}, "\x01"},
		{[][]byte{{3, 2}, nil, {1}, {}, {0, 255}}, "\x03\x02\x01\x00\xff"},
	}
	for i, x := range rows {
		if got := codec.Concat(x.parts...); string(got) != x.want {
			t.Errorf("row %d: % x, want % x", i, got, x.want)
		}
	}
}

// P1.6
func TestConcatSharesNothing(t *testing.T) {
	room := []byte{1, 2, 3, 4, 5, 6}
	got := codec.Concat(room[:2], room[3:4])
	if !bytes.Equal(room, []byte{1, 2, 3, 4, 5, 6}) {
		t.Error("Concat has written into its parts", room)
	}
	for i := range room {
		room[i] = 99
	}
	if !bytes.Equal(got, []byte{1, 2, 4}) {
		t.Error("an answer of Concat shows what was written later", got)
	}
	// A lone part is where sharing would be tempting.
	lone := make([]byte, 2, 8)
	alone := codec.Concat(lone)
	alone[0] = 7
	_ = append(alone, 8)
	if lone[0] != 0 || lone[:3][2] != 0 {
		t.Error("a part shows what was written into the answer", lone[:3])
	}
	empty := codec.Concat(lone[:0])
	_ = append(empty, 8)
	if lone[0] != 0 {
		t.Error("a part's spare room shows what was written behind an empty answer")
	}
}
