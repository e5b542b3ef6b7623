package topk_test

import (
	"slices"
	"testing"

	"concord/api"
	"concord/topk"
)

// ahead is the chapter's "a stands ahead of b".
func ahead(a, b api.Hit) bool {
	return a.Score > b.Score || a.Score == b.Score && a.Id < b.Id
}

// bestOf is the chapter's "the best k": again and again one that no other stands ahead of is taken out.
func bestOf(hits []api.Hit, k int) []api.Hit {
	rest := slices.Clone(hits)
	var out []api.Hit
	for len(out) < k && len(rest) > 0 {
		at := 0
		for i, h := range rest {
			if ahead(h, rest[at]) {
				at = i
			}
		}
		out = append(out, rest[at])
		rest = slices.Delete(rest, at, at+1)
	}
	return out
}

// bestBehind is what After answers.
func bestBehind(hits []api.Hit, h api.Hit, k int) []api.Hit {
	var behind []api.Hit
	for _, x := range hits {
		if ahead(h, x) {
			behind = append(behind, x)
		}
	}
	return bestOf(behind, k)
}

// keeper is a keeper by the chapter's words: what is kept, the best first.
type keeper struct {
	k    int
	kept []api.Hit
}

func (m *keeper) offer(h api.Hit) bool {
	if len(m.kept) >= m.k {
		last := len(m.kept) - 1
		if last < 0 || !ahead(h, m.kept[last]) {
			return false
		}
		m.kept = m.kept[:last]
	}
	at := 0
	for at < len(m.kept) && !ahead(h, m.kept[at]) {
		at++
	}
	m.kept = slices.Insert(m.kept, at, h)
	return true
}

// wantKept holds what a keeper tells against its model, each call asked twice.
func wantKept(t testing.TB, b *topk.Best, m *keeper) {
	t.Helper()
	var last api.Hit
	if len(m.kept) > 0 {
		last = m.kept[len(m.kept)-1]
	}
	for range 2 {
		if n := b.Len(); n != len(m.kept) {
			t.Fatalf("with %v kept by %d, Len is %d", m.kept, m.k, n)
		}
		if worst, ok := b.Worst(); worst != last || ok != (len(m.kept) > 0) {
			t.Fatalf("with %v kept by %d, Worst is %v, %v", m.kept, m.k, worst, ok)
		}
		if hits := b.Hits(); !slices.Equal(hits, m.kept) {
			t.Fatalf("with %v kept by %d, Hits are %v", m.kept, m.k, hits)
		}
	}
}

// holdOffer offers a hit to a keeper and to its model.
func holdOffer(t testing.TB, b *topk.Best, m *keeper, h api.Hit) {
	t.Helper()
	before := slices.Clone(m.kept)
	want := m.offer(h)
	if got := b.Offer(h); got != want {
		t.Fatalf("with %v kept by %d, Offer of %v is %v", before, m.k, h, got)
	}
}

// holdOffers holds a keeper against its model, ahead of, between and behind these offers.
func holdOffers(t testing.TB, k int, hits []api.Hit) {
	t.Helper()
	b, m := topk.New(k), &keeper{k: k}
	wantKept(t, b, m)
	for i, h := range hits {
		holdOffer(t, b, m, h)
		wantKept(t, b, m)
		wantHits(t, "the best", b.Hits(), bestOf(hits[:i+1], k), hits[:i+1], k)
	}
}

// holdLists holds Select, After and Join of these lists against the model.
func holdLists(t testing.TB, lists [][]api.Hit, h api.Hit, k int) {
	t.Helper()
	all := slices.Concat(lists...)
	wantHits(t, "Join", topk.Join(lists, k), bestOf(all, k), lists, k)
	wantHits(t, "Select", topk.Select(all, k), bestOf(all, k), all, k)
	wantHits(t, "After", topk.After(all, h, k), bestBehind(all, h, k), all, h, k)
}
