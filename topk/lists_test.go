package topk_test

import (
	"cmp"
	"math"
	"slices"
	"testing"

	"concord/api"
	"concord/topk"
)

// threeHits are three, two of them of one score, the best first; and the same hits in other orders.
func threeHits() [][]api.Hit {
	return [][]api.Hit{{hit(2, 5), hit(1, 3), hit(3, 3)}, {hit(3, 3), hit(1, 3), hit(2, 5)}, {hit(1, 3), hit(2, 5), hit(3, 3)}, {hit(1, 3), hit(3, 3), hit(2, 5)}}
}

// P24.1: Select over no hits, one, as many as k, fewer and more, sorted, sorted the other way round and in any order.
func TestSelect(t *testing.T) {
	for _, k := range edges() {
		wantHits(t, "Select of none", topk.Select(nil, k), nil)
		wantHits(t, "Select of none", topk.Select([]api.Hit{}, k), nil)
	}
	for _, list := range threeHits() {
		for _, row := range []struct {
			k    int
			want []api.Hit
		}{{math.MinInt, nil}, {-1, nil}, {0, nil}, {1, threeHits()[0][:1]}, {2, threeHits()[0][:2]}, {3, threeHits()[0]}, {4, threeHits()[0]}, {1 << 40, threeHits()[0]}, {math.MaxInt, threeHits()[0]}} {
			wantHits(t, "Select", topk.Select(list, row.k), row.want, list, row.k)
		}
	}
	one, alike := []api.Hit{hit(7, 0)}, []api.Hit{hit(4, 2), hit(4, 2), hit(4, 2)}
	wantHits(t, "Select", topk.Select(one, 0), nil, one)
	wantHits(t, "Select", topk.Select(one, 1), one, one)
	wantHits(t, "Select", topk.Select(one, 2), one, one)
	// Hits that are alike are each a hit of its own.
	wantHits(t, "Select", topk.Select(alike, 2), alike[:2], alike)
	wantHits(t, "Select", topk.Select(alike, 9), alike, alike)
	wantHits(t, "Select", topk.Select(append(slices.Clone(alike), one[0], hit(4, 3)), 3), []api.Hit{hit(4, 3), hit(4, 2), hit(4, 2)})
}

// P24.1: After of a hit that is one of them, that is none of them, that stands ahead of all, behind all, and alike to several.
func TestAfter(t *testing.T) {
	for _, k := range edges() {
		wantHits(t, "After in none", topk.After(nil, hit(0, 0), k), nil)
		wantHits(t, "After in none", topk.After([]api.Hit{}, hit(0, 9), k), nil)
	}
	best := threeHits()[0]
	for _, list := range threeHits() {
		for _, row := range []struct {
			name string
			h    api.Hit
			want []api.Hit
		}{
			{"the best", hit(2, 5), best[1:]}, {"the one between", hit(1, 3), best[2:]}, {"the worst", hit(3, 3), nil},
			{"none of them, by the score", hit(1, 4), best[1:]}, {"none of them, by the id", hit(2, 3), best[2:]}, {"the id of another", hit(3, 5), best[1:]}, {"the id of another", hit(2, 4), best[1:]},
			{"ahead of all by the id", hit(1, 5), best}, {"ahead of all by the score", hit(9, 6), best}, {"ahead of all there can be", hit(math.MinInt, math.MaxUint64), best},
			{"behind all by the id", hit(4, 3), nil}, {"behind all by the score", hit(0, 2), nil}, {"a zero hit", hit(0, 0), nil}, {"behind all there can be", hit(math.MaxInt, 0), nil},
		} {
			for _, k := range []int{math.MinInt, -1, 0, 1, 2, 3, 9, math.MaxInt} {
				want := row.want[:max(0, min(k, len(row.want)))]
				wantHits(t, "After "+row.name, topk.After(list, row.h, k), want, list, row.h, k)
			}
		}
	}
	several := []api.Hit{hit(4, 2), hit(5, 2), hit(4, 2), hit(3, 2), hit(5, 2), hit(4, 2)}
	wantHits(t, "After several that are alike", topk.After(several, hit(4, 2), 9), []api.Hit{hit(5, 2), hit(5, 2)})
	wantHits(t, "After several that are alike", topk.After(several, hit(3, 2), 4), []api.Hit{hit(4, 2), hit(4, 2), hit(4, 2), hit(5, 2)})
	wantHits(t, "After several that are alike", topk.After(several, hit(5, 2), 4), nil)
	wantHits(t, "After a zero hit", topk.After([]api.Hit{hit(1, 0), hit(0, 0), hit(-1, 0)}, hit(0, 0), 4), []api.Hit{hit(1, 0)})
}

// P24.1: Join of no lists, of empty ones, of a nil list, of lists that aren't sorted.
func TestJoin(t *testing.T) {
	a, b, c := hit(2, 5), hit(1, 3), hit(3, 3)
	for _, k := range edges() {
		for _, lists := range [][][]api.Hit{nil, {}, {nil}, {{}}, {nil, {}, nil}} {
			wantHits(t, "Join of none", topk.Join(lists, k), nil, lists, k)
		}
	}
	for _, lists := range [][][]api.Hit{{{a, b, c}}, {{a}, {b}, {c}}, {{c}, {b}, {a}}, {{c, a}, {b}}, {nil, {c, b}, {}, {a}, nil}, {{c, b, a}, {}}, {{}, {b, c, a}}, {{b, a}, {c}}} {
		for _, k := range []int{math.MinInt, -1, 0, 1, 2, 3, 4, math.MaxInt} {
			want := []api.Hit{a, b, c}[:max(0, min(k, 3))]
			wantHits(t, "Join", topk.Join(lists, k), want, lists, k)
		}
	}
	// All of the best may stand in one list, and hits of several lists may be alike.
	wantHits(t, "Join", topk.Join([][]api.Hit{{c}, {hit(9, 9), hit(8, 9), hit(7, 9)}, {a}}, 3), []api.Hit{hit(7, 9), hit(8, 9), hit(9, 9)})
	wantHits(t, "Join", topk.Join([][]api.Hit{{a, b}, {b, a}, {b}}, 4), []api.Hit{a, a, b, b})
	same := []api.Hit{b, a}
	wantHits(t, "Join of one list twice", topk.Join([][]api.Hit{same, same}, 3), []api.Hit{a, a, b})
}

// P24.1: all short lists, with every hit to go on behind, as one list and cut at every place.
func TestAllShortLists(t *testing.T) {
	kinds := append(fourKinds(), hit(1, 2))
	eachList(fourKinds(), 4, func(hits []api.Hit) {
		for k := -1; k <= 5; k++ {
			for _, h := range kinds {
				holdLists(t, [][]api.Hit{hits}, h, k)
			}
			for at := range hits {
				holdLists(t, [][]api.Hit{hits[:at], hits[at:]}, kinds[at], k)
			}
		}
	})
}

// P24.1: drawn lists, of all shapes.
func TestDrawnLists(t *testing.T) {
	m := newMaker(247)
	for range 400 {
		lists := m.lists(m.Intn(6), 25)
		all := slices.Concat(lists...)
		for _, k := range append(ksAround(len(all)), m.Intn(30)) {
			holdLists(t, lists, m.hits(1)[0], k)
			if len(all) > 0 {
				holdLists(t, lists, all[m.Intn(len(all))], k)
			}
		}
	}
}

// P24.1: very many hits in very many lists.
func TestVeryManyHits(t *testing.T) {
	m := newMaker(248)
	hits := make([]api.Hit, 200000)
	for i := range hits {
		hits[i] = hit(m.Intn(1<<17), uint64(m.Intn(1000)))
	}
	// Ids here are below 2^17: one number tells hits in their order.
	rank := func(h api.Hit) int { return (1000-int(h.Score))<<17 | h.Id }
	sorted := slices.Clone(hits)
	slices.SortFunc(sorted, func(a, b api.Hit) int { return cmp.Compare(rank(a), rank(b)) })
	behind := len(sorted) / 3
	for behind > 0 && sorted[behind-1] == sorted[behind] {
		behind--
	}
	next := behind
	for sorted[next] == sorted[behind] {
		next++
	}
	lists := m.cut(hits, 1<<15)
	for _, k := range []int{0, 1, 10, 1000, len(hits) / 2, len(hits) - 1, len(hits), math.MaxInt} {
		want := sorted[:min(k, len(sorted))]
		after := sorted[next:][:min(k, len(sorted)-next)]
		if !slices.Equal(topk.Select(hits, k), want) || !slices.Equal(topk.Join(lists, k), want) || !slices.Equal(topk.After(hits, sorted[behind], k), after) {
			t.Errorf("of %d hits the best %d are others", len(hits), k)
		}
	}
}

// P24.3: the pages behind one another are Select of all, of every size, however the list stands at each page.
func TestPages(t *testing.T) {
	m := newMaker(249)
	for i := range 120 {
		hits := m.unlike(i % 40)
		if i%5 == 0 {
			for k := range hits {
				hits[k] = hit(k*7%41-9, 3)
			}
		}
		all := topk.Select(hits, len(hits))
		wantHits(t, "Select", all, bestOf(hits, len(hits)), hits)
		for k := 1; k <= len(hits)+1; k++ {
			pages := topk.Select(hits, k)
			for at := k; at < len(hits); at += k {
				if i%2 == 0 {
					hits = m.shuffled(hits)
				}
				page := topk.After(hits, pages[len(pages)-1], k)
				if len(page) != min(k, len(hits)-at) {
					t.Fatalf("the page from %d on, of the size %d of %v, is %v", at, k, hits, page)
				}
				pages = append(pages, page...)
			}
			wantHits(t, "pages", pages, all, hits, k)
			if len(pages) > 0 {
				wantHits(t, "the page behind all", topk.After(hits, pages[len(pages)-1], k), nil, hits, k)
			}
		}
	}
}

// P24.4: Join of lists is Select of all their hits, and Join of the best of each is the best of all.
func TestJoined(t *testing.T) {
	m := newMaker(250)
	for range 300 {
		lists := m.lists(m.Intn(7), 20)
		all := slices.Concat(lists...)
		for _, k := range append(ksAround(len(all)), 3, 5, m.Intn(20)) {
			var bests [][]api.Hit
			for _, list := range lists {
				bests = append(bests, topk.Select(list, k))
			}
			want := bestOf(all, k)
			wantHits(t, "Join", topk.Join(lists, k), want, lists, k)
			wantHits(t, "Select of all", topk.Select(all, k), want, lists, k)
			wantHits(t, "Join of the best of each", topk.Join(bests, k), want, lists, k)
			m.Shuffle(len(lists), func(i, k int) { lists[i], lists[k] = lists[k], lists[i] })
			wantHits(t, "Join in another order", topk.Join(lists, k), want, lists, k)
			wantHits(t, "Join in another cut", topk.Join(m.cut(m.shuffled(all), 1+m.Intn(5)), k), want, lists, k)
		}
	}
}
