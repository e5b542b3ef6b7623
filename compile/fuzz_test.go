package compile_test

import (
	"math"
	"testing"

	"concord/api"
)

// taker makes queries out of bytes: each choice takes one, and there is always one more, a 0.
type taker struct {
	bytes []byte
}

func (k *taker) next(n int) int {
	if len(k.bytes) == 0 {
		return 0
	}
	x := int(k.bytes[0])
	k.bytes = k.bytes[1:]
	return x % n
}

func (k *taker) weight() uint64 {
	return []uint64{0, 1, 3, 1 << 40, math.MaxUint64}[k.next(5)]
}

func (k *taker) query(depth int) api.Query {
	kind := k.next(12)
	if depth == 0 {
		kind %= 6
	}
	switch kind {
	case 0:
		return none
	case 1:
		return all
	case 2:
		return has(k.next(2))
	case 3:
		return phrase(0, k.next(3), k.weight(), []string{"a", "c b", "b d d", "e q c"}[k.next(4)])
	case 4, 5:
		return term(k.next(2), []string{"a", "b", "c", "d", "e"}[k.next(5)], k.weight())
	case 6:
		return not(k.query(depth - 1))
	case 7:
		return boost(k.weight(), k.query(depth-1))
	case 8:
		return fixed(k.weight(), k.query(depth-1))
	case 9:
		return most(k.kids(depth)...)
	}
	n, kids, signs := k.next(4), k.kids(depth), ""
	for range kids {
		signs += string(" +-"[k.next(3)])
	}
	return list(n, signs, kids...)
}

func (k *taker) kids(depth int) []api.Query {
	kids := []api.Query{k.query(depth - 1)}
	for range k.next(5) {
		kids = append(kids, k.query(depth-1))
	}
	return kids
}

// FuzzPlan holds every promise over the plans that bytes make, and documents of all sets of a few words.
func FuzzPlan(f *testing.F) {
	f.Add([]byte{10, 1, 4, 0, 2, 2, 10, 0, 4, 1, 1, 6, 4, 2, 2, 1, 1, 2, 0, 2})
	f.Add([]byte{7, 1, 11, 2, 4, 0, 0, 3, 9, 4, 1, 1, 1, 4, 2, 8, 3, 6, 1, 0, 0, 0})
	s := mustParse(f, "t:text;u:text")
	cut := subsets(f, s, 4)
	f.Fuzz(func(t *testing.T, data []byte) {
		k := &taker{data[:min(len(data), 150)]}
		q := k.query(6)
		m := newMaker(int64(k.next(256)))
		m.holdMeaning(t, q, s, cut, kinds{})
		other := m.reweighted(q, true)
		if was, is := mustProgram(t, every(q), stats(2)), mustProgram(t, every(other), stats(2)); !alikeProgs(was, is) {
			t.Fatalf("the programs of %s and %s differ: %s and %s", brief(q), brief(other), brief(was), brief(is))
		}
	})
}
