package topk_test

import (
	"math"
	"testing"

	"concord/api"
	"concord/topk"
)

// P24.1: the chapter's examples.
func TestExamples(t *testing.T) {
	if !topk.Better(hit(3, 10), hit(1, 9)) || !topk.Better(hit(1, 9), hit(3, 9)) || topk.Better(hit(1, 9), hit(1, 9)) {
		t.Error("example 1")
	}
	b := topk.New(2)
	for _, o := range []struct {
		h    api.Hit
		kept bool
	}{{hit(5, 7), true}, {hit(4, 7), true}, {hit(6, 7), false}, {hit(9, 8), true}} {
		if b.Offer(o.h) != o.kept {
			t.Errorf("example 2: Offer of %v is %v", o.h, !o.kept)
		}
	}
	wantHits(t, "example 2: Hits", b.Hits(), []api.Hit{hit(9, 8), hit(4, 7)})
	if worst, ok := b.Worst(); worst != hit(4, 7) || !ok || b.Offer(hit(4, 7)) {
		t.Error("example 2: Worst, and Offer behind it")
	}
	list := []api.Hit{hit(1, 3), hit(2, 5), hit(3, 3)}
	wantHits(t, "example 3: Select", topk.Select(list, 2), []api.Hit{hit(2, 5), hit(1, 3)})
	wantHits(t, "example 3: After", topk.After(list, hit(2, 5), 9), []api.Hit{hit(1, 3), hit(3, 3)})
	wantHits(t, "example 3: After of none of them", topk.After(list, hit(1, 4), 1), []api.Hit{hit(1, 3)})
	wantHits(t, "example 4: Join", topk.Join([][]api.Hit{{hit(1, 3)}, {}, {hit(0, 3), hit(7, 1)}}, 2), []api.Hit{hit(0, 3), hit(1, 3)})
	none := topk.New(0)
	if worst, ok := none.Worst(); none.Offer(hit(1, 1)) || none.Len() != 0 || ok || worst != (api.Hit{}) {
		t.Error("example 5")
	}
}

// bestFirst are hits with ids and scores up to the ends of what numbers may be, the best first, no two alike.
func bestFirst() []api.Hit {
	var out []api.Hit
	for _, score := range []uint64{math.MaxUint64, math.MaxUint64 - 1, api.Top + 1, api.Top, api.Top - 1, 1 << 32, api.One, 2, 1, 0} {
		for _, id := range []int{math.MinInt, math.MinInt + 1, -1 << 32, -2, -1, 0, 1, 2, 1 << 32, api.MaxId, math.MaxInt - 1, math.MaxInt} {
			out = append(out, hit(id, score))
		}
	}
	return out
}

// P24.1: Better of every pair of ids and scores, below, alike and above one another.
func TestBetter(t *testing.T) {
	list := bestFirst()
	for i, a := range list {
		for k, b := range list {
			if topk.Better(a, b) != (i < k) {
				t.Errorf("Better(%v, %v) is %v", a, b, i >= k)
			}
		}
	}
}

// P24.1: Better of drawn hits, and that one of two that aren't alike stands ahead of the other.
func TestBetterOfDrawnHits(t *testing.T) {
	m := newMaker(241)
	alike := 0
	for range 20000 {
		pair := m.hits(2)
		a, b := pair[0], pair[1]
		if topk.Better(a, b) != ahead(a, b) || topk.Better(b, a) != ahead(b, a) || topk.Better(a, a) {
			t.Fatalf("Better of %v and %v is %v, and %v turned round", a, b, topk.Better(a, b), topk.Better(b, a))
		}
		if topk.Better(a, b) && topk.Better(b, a) || !topk.Better(a, b) && !topk.Better(b, a) && a != b {
			t.Fatalf("neither %v nor %v stands ahead, or both do", a, b)
		}
		if a == b {
			alike++
		}
	}
	if alike < 1000 {
		t.Errorf("only %d pairs were alike", alike)
	}
}
