package codec_test

import (
	"math"
	"math/rand"
	"reflect"
	"slices"
	"testing"

	"concord/codec"
)

// pair is a thing put by a Writer, and the call of the same name that reads it again.
type pair struct {
	value any
	put   func(w *codec.Writer) error
	take  func(r *codec.Reader) (any, error)
}

// someList has up to 40 elements of a width of its own.
func someList(dice *rand.Rand) []int {
	list := make([]int, dice.Intn(40))
	narrow := 1 + dice.Intn(63)
	for i := range list {
		list[i] = int(dice.Uint64() >> narrow)
	}
	return list
}

func somePair(dice *rand.Rand) pair {
	u := dice.Uint64() >> dice.Intn(64)
	list := someList(dice)
	raw := make([]byte, dice.Intn(200))
	dice.Read(raw)
	up := slices.Compact(slices.Sorted(slices.Values(list)))
	pairs := []pair{
		{byte(u), plain(func(w *codec.Writer) { w.Byte(byte(u)) }), func(r *codec.Reader) (any, error) { return r.Byte() }},
		{u, uvarint(u), func(r *codec.Reader) (any, error) { return r.Uvarint() }},
		{int64(u), varint(int64(u)), func(r *codec.Reader) (any, error) { return r.Varint() }},
		{-int64(u), varint(-int64(u)), func(r *codec.Reader) (any, error) { return r.Varint() }},
		{uint32(u), plain(func(w *codec.Writer) { w.Word32(uint32(u)) }), func(r *codec.Reader) (any, error) { return r.Word32() }},
		{u, plain(func(w *codec.Writer) { w.Word64(u) }), func(r *codec.Reader) (any, error) { return r.Word64() }},
		{string(raw), plain(func(w *codec.Writer) { w.Raw(raw) }), func(r *codec.Reader) (any, error) { return rawAsText(r, len(raw)) }},
		{string(raw), text(string(raw)), func(r *codec.Reader) (any, error) { return r.Text(len(raw)) }},
		{up, rising(up...), func(r *codec.Reader) (any, error) { return r.Rising(len(up)) }},
		{list, packed(list...), func(r *codec.Reader) (any, error) { return r.Packed(len(list)) }},
	}
	return pairs[dice.Intn(len(pairs))]
}

func equal(got, want any) bool {
	if list, ok := got.([]int); ok {
		return slices.Equal(list, want.([]int))
	}
	return reflect.DeepEqual(got, want)
}

// P1.4
func TestThereAndBack(t *testing.T) {
	dice := rand.New(rand.NewSource(4))
	for range 3000 {
		w := codec.NewWriter()
		row := make([]pair, dice.Intn(12))
		ends := make([]int, len(row))
		for i := range row {
			row[i] = somePair(dice)
			if err := row[i].put(w); err != nil {
				t.Fatal(row[i].value, err)
			}
			ends[i] = w.Len()
		}
		r := codec.NewReader(w.Bytes())
		for i, p := range row {
			got, err := p.take(r)
			if err != nil || !equal(got, p.value) || r.At() != ends[i] {
				t.Fatalf("put %#v, read %#v, %v, At %d, want %d", p.value, got, err, r.At(), ends[i])
			}
		}
		if err := r.Done(); err != nil {
			t.Fatal("Done:", err)
		}
	}
}

// P1.4
func TestThereAndBackAtEdges(t *testing.T) {
	for _, v := range unsigned() {
		w := codec.NewWriter()
		w.Uvarint(v)
		w.Varint(int64(v))
		w.Word32(uint32(v))
		w.Word64(v)
		r := codec.NewReader(w.Bytes())
		a, err1 := r.Uvarint()
		b, err2 := r.Varint()
		c, err3 := r.Word32()
		d, err4 := r.Word64()
		if err1 != nil || err2 != nil || err3 != nil || err4 != nil || r.Done() != nil {
			t.Fatal(v, err1, err2, err3, err4, r.Done())
		}
		if a != v || b != int64(v) || c != uint32(v) || d != v {
			t.Errorf("%d: %d, %d, %d, %d", v, a, b, c, d)
		}
	}
}

// P1.4: every width with every number of bits left over.
func TestPackedThereAndBack(t *testing.T) {
	for width := range 64 {
		for n := 1; n <= 17; n++ {
			list := make([]int, n)
			for i := range list {
				list[i] = (math.MaxInt >> (63 - width)) >> (i * i % 5)
			}
			w := codec.NewWriter()
			if err := w.Packed(list); err != nil || w.Len() != 2+(n*width+7)/8 {
				t.Fatal(width, n, w.Len(), err)
			}
			r := codec.NewReader(w.Bytes())
			got, err := r.Packed(n)
			if err != nil || !slices.Equal(got, list) || r.Done() != nil {
				t.Fatalf("%v, read %v, %v, %v", list, got, err, r.Done())
			}
		}
	}
}

// P1.3, P1.5: go test -fuzz=FuzzReader ./codec
func FuzzReader(f *testing.F) {
	for _, p := range puts() {
		w := codec.NewWriter()
		if err := p.call(w); err != nil {
			f.Fatal(err)
		}
		f.Add(w.Bytes(), []byte{0, 1, 2, 3, 4, 5, 6, 7, 8, 9}, 1000)
	}
	f.Fuzz(func(t *testing.T, b, calls []byte, most int) {
		list := asks(most)
		r := codec.NewReader(b)
		for _, c := range calls {
			checkAsk(t, b, r, list[int(c)%len(list)])
		}
	})
}
