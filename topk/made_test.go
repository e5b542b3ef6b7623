package topk_test

import (
	"math"
	"math/rand"
	"slices"
	"testing"

	"concord/api"
	"concord/topk"
)

// hit is a hit, told as the chapter's examples tell it.
func hit(id int, score uint64) api.Hit { return api.Hit{Id: id, Score: score} }

// edges are numbers at the edges of what a k may be.
func edges() []int { return []int{math.MinInt, -1, 0, 1, 2, 1 << 40, math.MaxInt} }

// ksAround are numbers around those of n hits, and at the edges.
func ksAround(n int) []int {
	return append(edges(), n/2, n-1, n, n+1, 2*n)
}

// fourKinds are hits, of which every two can be told apart by one of score and id at least.
func fourKinds() []api.Hit {
	return []api.Hit{hit(0, 1), hit(1, 1), hit(0, 2), hit(-1, 2)}
}

// eachList goes through all lists of up to so many hits of these kinds.
func eachList(kinds []api.Hit, most int, do func(hits []api.Hit)) {
	var longer func(hits []api.Hit)
	longer = func(hits []api.Hit) {
		do(hits)
		if len(hits) == most {
			return
		}
		for _, kind := range kinds {
			longer(append(slices.Clone(hits), kind))
		}
	}
	longer(nil)
}

// eachOrder goes through all orders of these hits.
func eachOrder(hits []api.Hit, do func(hits []api.Hit)) {
	order := slices.Clone(hits)
	var from func(at int)
	from = func(at int) {
		if at == len(order) {
			do(order)
			return
		}
		for i := at; i < len(order); i++ {
			order[at], order[i] = order[i], order[at]
			from(at + 1)
			order[at], order[i] = order[i], order[at]
		}
	}
	from(0)
}

// maker draws hits by dice.
type maker struct {
	*rand.Rand
}

func newMaker(seed int64) *maker {
	return &maker{rand.New(rand.NewSource(seed))}
}

// id is any id, near to others or not.
func (m *maker) id() int {
	switch m.Intn(8) {
	case 0:
		return []int{math.MinInt, math.MinInt + 1, -1, 0, math.MaxInt - 1, math.MaxInt}[m.Intn(6)]
	case 1:
		return int(m.Uint64())
	}
	return m.Intn(9) - 3
}

// score is any score, near to others or not.
func (m *maker) score() uint64 {
	switch m.Intn(8) {
	case 0:
		return []uint64{0, 1, api.Top - 1, api.Top, math.MaxUint64 - 1, math.MaxUint64}[m.Intn(6)]
	case 1:
		return m.Uint64()
	}
	return uint64(m.Intn(4))
}

// hits are n hits, some of them alike.
func (m *maker) hits(n int) []api.Hit {
	out := make([]api.Hit, n)
	for i := range out {
		out[i] = hit(m.id(), m.score())
		if i > 0 && m.Intn(6) == 0 {
			out[i] = out[m.Intn(i)]
		}
	}
	return out
}

// unlike are n hits no two of which are alike, many of them with the same score, or with the same id.
func (m *maker) unlike(n int) []api.Hit {
	var out []api.Hit
	known := map[api.Hit]bool{}
	for len(out) < n {
		h := hit(m.id(), m.score())
		if m.Intn(2) == 0 {
			h.Id = m.Intn(3*n) - n
		}
		if !known[h] {
			known[h] = true
			out = append(out, h)
		}
	}
	return out
}

// lists are so many lists of hits, some of them nil, empty, or sorted in one way or the other.
func (m *maker) lists(n, most int) [][]api.Hit {
	out := make([][]api.Hit, n)
	for i := range out {
		switch m.Intn(6) {
		case 0:
			out[i] = m.shaped(m.Intn(most+1), i)
		case 1:
			out[i] = []api.Hit{}
		case 2:
		default:
			out[i] = m.hits(m.Intn(most + 1))
		}
	}
	return out
}

// shaped are n hits of one of several shapes.
func (m *maker) shaped(n, shape int) []api.Hit {
	hits := m.hits(n)
	switch shape % 5 {
	case 0:
		hits = bestOf(hits, n)
	case 1:
		hits = bestOf(hits, n)
		slices.Reverse(hits)
	case 2:
		for i := range hits {
			hits[i] = hits[0]
		}
	case 3:
		for i := range hits {
			hits[i].Score = 7
		}
	}
	return hits
}

// shuffled are the same hits in an order that dice make.
func (m *maker) shuffled(hits []api.Hit) []api.Hit {
	out := slices.Clone(hits)
	m.Shuffle(len(out), func(i, k int) { out[i], out[k] = out[k], out[i] })
	return out
}

// cut is hits as so many lists, each hit in one of them.
func (m *maker) cut(hits []api.Hit, n int) [][]api.Hit {
	out := make([][]api.Hit, n)
	for _, h := range hits {
		i := m.Intn(n)
		out[i] = append(out[i], h)
	}
	return out
}

// wantHits says that an answer is just these hits.
func wantHits(t testing.TB, what string, got, want []api.Hit, of ...any) {
	t.Helper()
	if !slices.Equal(got, want) {
		t.Fatalf("%s of %v is %v, not %v", what, of, got, want)
	}
}

// keeperOf is a keeper of k that was offered these hits.
func keeperOf(k int, hits ...api.Hit) *topk.Best {
	b := topk.New(k)
	for _, h := range hits {
		b.Offer(h)
	}
	return b
}
