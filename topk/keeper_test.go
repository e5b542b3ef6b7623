package topk_test

import (
	"fmt"
	"math"
	"runtime"
	"slices"
	"testing"

	"concord/api"
	"concord/topk"
)

// offered is an offer, whether it is kept, and what is kept behind it.
type offered struct {
	h    api.Hit
	kept bool
	hits string
}

// P24.1: offers with fewer than k kept, and with k kept: ahead of the worst, alike to it, behind it, alike to a better one.
func TestOffers(t *testing.T) {
	for _, row := range []struct {
		name   string
		k      int
		offers []offered
	}{
		{"none is ever kept", 0, []offered{{hit(0, 0), false, "[]"}, {hit(1, math.MaxUint64), false, "[]"}, {hit(math.MinInt, math.MaxUint64), false, "[]"}}},
		{"below none", -1, []offered{{hit(0, 0), false, "[]"}, {hit(1, 9), false, "[]"}}},
		{"far below none", math.MinInt, []offered{{hit(0, 0), false, "[]"}, {hit(1, 9), false, "[]"}}},
		{"a zero hit is a hit", 1, []offered{{hit(0, 0), true, "[{0 0}]"}, {hit(0, 0), false, "[{0 0}]"}, {hit(1, 0), false, "[{0 0}]"}, {hit(-1, 0), true, "[{-1 0}]"}, {hit(7, 1), true, "[{7 1}]"}}},
		{"one by the score", 1, []offered{{hit(5, 5), true, "[{5 5}]"}, {hit(0, 4), false, "[{5 5}]"}, {hit(9, 6), true, "[{9 6}]"}, {hit(5, 5), false, "[{9 6}]"}}},
		{"one by the id", 1, []offered{{hit(5, 5), true, "[{5 5}]"}, {hit(6, 5), false, "[{5 5}]"}, {hit(4, 5), true, "[{4 5}]"}, {hit(4, 5), false, "[{4 5}]"}, {hit(math.MinInt, 5), true, "[{-9223372036854775808 5}]"}}},
		{"fewer than k", 3, []offered{{hit(2, 2), true, "[{2 2}]"}, {hit(3, 1), true, "[{2 2} {3 1}]"}, {hit(1, 3), true, "[{1 3} {2 2} {3 1}]"}}},
		{"alike, fewer than k", 3, []offered{{hit(2, 2), true, "[{2 2}]"}, {hit(2, 2), true, "[{2 2} {2 2}]"}, {hit(2, 2), true, "[{2 2} {2 2} {2 2}]"}, {hit(2, 2), false, "[{2 2} {2 2} {2 2}]"}}},
		{"alike to the worst", 2, []offered{{hit(1, 9), true, "[{1 9}]"}, {hit(2, 3), true, "[{1 9} {2 3}]"}, {hit(2, 3), false, "[{1 9} {2 3}]"}}},
		{"alike to a better one", 2, []offered{{hit(1, 9), true, "[{1 9}]"}, {hit(2, 3), true, "[{1 9} {2 3}]"}, {hit(1, 9), true, "[{1 9} {1 9}]"}, {hit(1, 9), false, "[{1 9} {1 9}]"}, {hit(0, 9), true, "[{0 9} {1 9}]"}}},
		{"behind the worst", 2, []offered{{hit(1, 9), true, "[{1 9}]"}, {hit(2, 3), true, "[{1 9} {2 3}]"}, {hit(3, 3), false, "[{1 9} {2 3}]"}, {hit(0, 2), false, "[{1 9} {2 3}]"}, {hit(math.MinInt, 0), false, "[{1 9} {2 3}]"}}},
		{"ahead of the worst", 2, []offered{{hit(5, 3), true, "[{5 3}]"}, {hit(1, 9), true, "[{1 9} {5 3}]"}, {hit(4, 3), true, "[{1 9} {4 3}]"}, {hit(9, 4), true, "[{1 9} {9 4}]"}, {hit(3, 9), true, "[{1 9} {3 9}]"}, {hit(0, 9), true, "[{0 9} {1 9}]"}}},
		{"ahead of all", 3, []offered{{hit(1, 1), true, "[{1 1}]"}, {hit(1, 2), true, "[{1 2} {1 1}]"}, {hit(1, 3), true, "[{1 3} {1 2} {1 1}]"}, {hit(1, 4), true, "[{1 4} {1 3} {1 2}]"}, {hit(1, math.MaxUint64), true, "[{1 18446744073709551615} {1 4} {1 3}]"}}},
		{"scores at the ends", 2, []offered{{hit(0, api.Top), true, "[{0 9223372036854775808}]"}, {hit(0, api.Top-1), true, "[{0 9223372036854775808} {0 9223372036854775807}]"}, {hit(-1, 0), false, "[{0 9223372036854775808} {0 9223372036854775807}]"}, {hit(9, math.MaxUint64), true, "[{9 18446744073709551615} {0 9223372036854775808}]"}}},
		{"one comes and goes", 2, []offered{{hit(4, 4), true, "[{4 4}]"}, {hit(3, 5), true, "[{3 5} {4 4}]"}, {hit(2, 6), true, "[{2 6} {3 5}]"}, {hit(4, 4), false, "[{2 6} {3 5}]"}}},
		{"more than any memory holds", math.MaxInt, []offered{{hit(1, 1), true, "[{1 1}]"}, {hit(1, 1), true, "[{1 1} {1 1}]"}, {hit(0, 0), true, "[{1 1} {1 1} {0 0}]"}}},
	} {
		b, m := topk.New(row.k), &keeper{k: row.k}
		wantKept(t, b, m)
		for _, o := range row.offers {
			if kept := b.Offer(o.h); kept != o.kept || m.offer(o.h) != o.kept {
				t.Errorf("%s: Offer of %v is %v", row.name, o.h, kept)
			}
			if hits := fmt.Sprint(b.Hits()); hits != o.hits {
				t.Errorf("%s: behind the Offer of %v, Hits are %s, not %s", row.name, o.h, hits, o.hits)
			}
			wantKept(t, b, m)
		}
	}
}

// P24.1: all short rows of offers, to keepers of every k up to more than these.
func TestOffersOfAllShortRows(t *testing.T) {
	eachList(fourKinds(), 5, func(hits []api.Hit) {
		for k := -1; k <= 6; k++ {
			holdOffers(t, k, hits)
		}
	})
}

// P24.1: drawn offers, to keepers of every k.
func TestDrawnOffers(t *testing.T) {
	m := newMaker(242)
	for i := range 300 {
		hits := m.hits(m.Intn(30))
		if i%3 == 0 {
			hits = m.shaped(m.Intn(30), m.Intn(5))
		}
		for _, k := range ksAround(len(hits)) {
			holdOffers(t, k, hits)
		}
		holdOffers(t, m.Intn(30), hits)
	}
}

// P24.1: many offers to keepers that keep many, in rows of every shape: the best first, the worst first, all alike.
func TestManyOffers(t *testing.T) {
	m := newMaker(243)
	for shape := range 5 {
		for _, k := range []int{1, 2, 3, 63, 64, 65, 700, 1500, 2000} {
			b, model := topk.New(k), &keeper{k: k}
			for i, h := range m.shaped(1500, shape) {
				holdOffer(t, b, model, h)
				if i%100 == 0 {
					wantKept(t, b, model)
				}
			}
			wantKept(t, b, model)
		}
	}
}

// P24.1: very many offers to keepers that keep very many, the worst first, so that each one goes ahead of all.
func TestVeryManyOffers(t *testing.T) {
	const n, k = 400000, 100000
	b := topk.New(k)
	for i := range n {
		if !b.Offer(hit(n-i, uint64(i/2))) {
			t.Fatalf("the offer %d isn't kept", i)
		}
	}
	hits := b.Hits()
	if len(hits) != k || b.Len() != k {
		t.Fatalf("%d are kept, %d by Len", len(hits), b.Len())
	}
	for i, h := range hits {
		// Two by two of one score, the one that was offered later has the lesser id.
		if want := hit(1+i, uint64((n-1-i)/2)); h != want {
			t.Fatalf("the hit %d is %v, not %v", i, h, want)
		}
	}
	if worst, ok := b.Worst(); !ok || worst != hits[k-1] {
		t.Errorf("Worst is %v, %v", worst, ok)
	}
}

// P24.1: two keepers, and more, in turns: none is seen in another.
func TestKeepersInTurns(t *testing.T) {
	m := newMaker(244)
	for range 100 {
		ks := []int{2, 2, 0, m.Intn(9), m.Intn(9), math.MaxInt}
		var keepers []*topk.Best
		var models []*keeper
		for _, k := range ks {
			keepers, models = append(keepers, topk.New(k)), append(models, &keeper{k: k})
		}
		for _, h := range m.hits(60) {
			i := m.Intn(len(ks))
			holdOffer(t, keepers[i], models[i], h)
			for k := range keepers {
				wantKept(t, keepers[k], models[k])
			}
		}
	}
}

// usedBy is how much memory a call takes, in bytes.
func usedBy(do func()) uint64 {
	var before, behind runtime.MemStats
	runtime.ReadMemStats(&before)
	do()
	runtime.ReadMemStats(&behind)
	return behind.TotalAlloc - before.TotalAlloc
}

// P24.1: room is taken for what is kept, neither for k nor for what was offered.
func TestRoom(t *testing.T) {
	few := []api.Hit{hit(1, 1), hit(2, 3), hit(0, 1)}
	for _, k := range []int{1 << 24, 1 << 40, 1 << 62, math.MaxInt} {
		if used := usedBy(func() {
			b := keeperOf(k, few...)
			if b.Len() != 3 || len(b.Hits()) != 3 || len(topk.Select(few, k)) != 3 || len(topk.After(few, hit(0, 2), k)) != 2 || len(topk.Join([][]api.Hit{few, few}, k)) != 6 {
				t.Errorf("%d keeps others", k)
			}
		}); used > 1<<20 {
			t.Errorf("three hits and %d take %d bytes", k, used)
		}
	}
	b := topk.New(3)
	if used := usedBy(func() {
		for i := range 1 << 20 {
			b.Offer(hit(i, uint64(i)))
		}
	}); used > 1<<20 {
		t.Errorf("three that are kept of many take %d bytes", used)
	}
	wantHits(t, "Hits", b.Hits(), []api.Hit{hit(1<<20-1, 1<<20-1), hit(1<<20-2, 1<<20-2), hit(1<<20-3, 1<<20-3)})
}

// P24.2: what is kept hangs on what was offered alone, in all orders of few hits.
func TestAllOrders(t *testing.T) {
	m := newMaker(245)
	for i := range 40 {
		hits := m.hits(2 + i%5)
		for k := -1; k <= len(hits)+1; k++ {
			want := &keeper{k: k, kept: bestOf(hits, k)}
			eachOrder(hits, func(order []api.Hit) { wantKept(t, keeperOf(k, order...), want) })
		}
	}
}

// P24.2: and in many drawn orders of more hits, and in those of the best and of the worst first.
func TestDrawnOrders(t *testing.T) {
	m := newMaker(246)
	for range 60 {
		hits := m.hits(5 + m.Intn(60))
		for _, k := range append(ksAround(len(hits)), 1+m.Intn(len(hits)), 1+m.Intn(len(hits))) {
			sorted := bestOf(hits, len(hits))
			want := &keeper{k: k, kept: bestOf(hits, k)}
			wantKept(t, keeperOf(k, sorted...), want)
			slices.Reverse(sorted)
			wantKept(t, keeperOf(k, sorted...), want)
			for range 8 {
				wantKept(t, keeperOf(k, m.shuffled(hits)...), want)
			}
		}
	}
}
