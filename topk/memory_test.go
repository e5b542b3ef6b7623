package topk_test

import (
	"math"
	"slices"
	"testing"
	"unsafe"

	"concord/api"
	"concord/topk"
)

// sparedList is a list in memory of its own, with spare room in which stands what would be the best of all.
func sparedList(hits []api.Hit) []api.Hit {
	mark := hit(-99, math.MaxUint64)
	return append(append(make([]api.Hit, 0, len(hits)+3), hits...), mark, mark, mark)[:len(hits)]
}

// sparedLists are lists with spare room, in a list that has some.
func sparedLists(lists [][]api.Hit) [][]api.Hit {
	out := make([][]api.Hit, 0, len(lists)+2)
	for _, list := range lists {
		out = append(out, sparedList(list))
	}
	return append(out, sparedList(nil)[:2], sparedList(nil)[:1])[:len(lists)]
}

// whole is a list with its spare room.
func whole(hits []api.Hit) []api.Hit { return hits[:cap(hits)] }

// copied is a copy of lists, of their spare rooms and of the spare lists.
func copied(lists [][]api.Hit) [][]api.Hit {
	var out [][]api.Hit
	for _, list := range lists[:cap(lists)] {
		out = append(out, append(make([]api.Hit, 0, len(list)), whole(list)...))
	}
	return out
}

// wantStayed says that lists are as they were, spare room included.
func wantStayed(t *testing.T, what string, lists, before [][]api.Hit, lengths []int) {
	t.Helper()
	for i, list := range lists[:cap(lists)] {
		if len(list) != lengths[i] || !slices.Equal(whole(list), before[i]) {
			t.Fatalf("%s has changed the list %d, %v, to %v", what, i, before[i], whole(list))
		}
	}
}

// spoil writes over a list, spare room included, and lets it grow.
func spoil(hits []api.Hit) {
	for i := range whole(hits) {
		whole(hits)[i] = hit(-7, 77)
	}
	_ = append(hits, hit(-8, 88))
}

// room is where the memory of a list begins and ends, spare room included.
func room(hits []api.Hit) (uintptr, uintptr) {
	from := uintptr(unsafe.Pointer(unsafe.SliceData(hits)))
	return from, from + uintptr(cap(hits))*unsafe.Sizeof(api.Hit{})
}

// wantApart says that no two of these lists share memory.
func wantApart(t *testing.T, what string, lists ...[]api.Hit) {
	t.Helper()
	for i, a := range lists {
		for k, b := range lists[:i] {
			from, to := room(a)
			from2, to2 := room(b)
			if cap(a) > 0 && cap(b) > 0 && from < to2 && from2 < to {
				t.Fatalf("%s: the lists %d and %d, %v and %v, share memory", what, k, i, b, a)
			}
		}
	}
}

// eachHeld goes through lists of all sorts, sorted ones among them, with a hit and a k.
func eachHeld(do func(lists [][]api.Hit, h api.Hit, k int)) {
	m := newMaker(251)
	for i := range 150 {
		lists := m.lists(i%5, 12)
		if i%3 == 0 {
			for k, list := range lists {
				lists[k] = bestOf(list, len(list))
			}
		}
		all := slices.Concat(lists...)
		for _, k := range append(ksAround(len(all)), m.Intn(9)) {
			do(lists, hit(math.MinInt, math.MaxUint64), k)
			do(lists, m.hits(1)[0], k)
		}
	}
}

// Rule 5: lists that are handed in stay as they were, spare room included.
func TestListsStay(t *testing.T) {
	eachHeld(func(lists [][]api.Hit, h api.Hit, k int) {
		own := sparedLists(lists)
		before := copied(own)
		var lengths []int
		for _, list := range own[:cap(own)] {
			lengths = append(lengths, len(list))
		}
		topk.Join(own, k)
		wantStayed(t, "Join", own, before, lengths)
		for _, list := range own {
			topk.Select(list, k)
			topk.After(list, h, k)
		}
		wantStayed(t, "Select or After", own, before, lengths)
	})
}

// Rule 5: what Select, After and Join answer is new memory: it stays as it was where lists that were handed in and other answers are written over and grown.
func TestListsAreNew(t *testing.T) {
	eachHeld(func(lists [][]api.Hit, h api.Hit, k int) {
		all := slices.Concat(lists...)
		own, list := sparedLists(lists), sparedList(all)
		joined, selected, after := topk.Join(own, k), topk.Select(list, k), topk.After(list, h, k)
		wantApart(t, "answers", append([][]api.Hit{list, joined, selected, after, topk.Join(own, k), topk.Select(list, k), topk.After(list, h, k)}, own...)...)
		best, behind := bestOf(all, k), bestBehind(all, h, k)
		spoil(list)
		for _, o := range own {
			spoil(o)
		}
		for i := range own[:cap(own)] {
			own[:cap(own)][i] = list
		}
		wantHits(t, "Join, with its lists written over,", joined, best, lists, k)
		wantHits(t, "Select, with its list written over,", selected, best, lists, k)
		wantHits(t, "After, with its list written over,", after, behind, lists, h, k)
		spoil(joined)
		wantHits(t, "Select, with another answer written over,", selected, best, lists, k)
		spoil(selected)
		wantHits(t, "After, with other answers written over,", after, behind, lists, h, k)
		spoil(after)
		holdLists(t, lists, h, k)
	})
}

// Rule 5: Hits are new memory: written over and grown, they change nothing that the keeper tells, and later offers change none of them.
func TestHitsAreNew(t *testing.T) {
	m := newMaker(252)
	for range 200 {
		hits := m.hits(m.Intn(25))
		for _, k := range append(ksAround(len(hits)), m.Intn(9)) {
			b, model := topk.New(k), &keeper{k: k}
			var told, want [][]api.Hit
			for _, h := range hits {
				holdOffer(t, b, model, h)
				spoil(b.Hits())
				wantKept(t, b, model)
				told, want = append(told, b.Hits()), append(want, slices.Clone(model.kept))
			}
			wantApart(t, "Hits", told...)
			for i := range told {
				wantHits(t, "Hits, behind later offers,", told[i], want[i], hits, k)
				spoil(told[i])
			}
			wantKept(t, b, model)
			for _, h := range m.hits(5) {
				holdOffer(t, b, model, h)
				wantKept(t, b, model)
			}
		}
	}
}

// Rule 6: nil and empty lists mean the same.
func TestEmptyLists(t *testing.T) {
	for _, k := range edges() {
		h := hit(3, 3)
		for _, answer := range [][]api.Hit{topk.Select(nil, k), topk.Select([]api.Hit{}, k), topk.After(nil, h, k), topk.After([]api.Hit{}, h, k), topk.Join(nil, k), topk.Join([][]api.Hit{}, k), topk.Join([][]api.Hit{nil, {}}, k), topk.New(k).Hits()} {
			wantHits(t, "an answer", answer, nil, k)
		}
		wantHits(t, "Join", topk.Join([][]api.Hit{nil, {h}, {}}, k), topk.Join([][]api.Hit{{}, {h}, nil}, k), k)
	}
}

// Rule 3: two keepers may be used at the same time.
func TestSideBySide(t *testing.T) {
	m := newMaker(253)
	done := make(chan string)
	for i := range 6 {
		hits, k := m.hits(200), 20*i
		want := bestOf(hits, k)
		go func() {
			fault := ""
			for range 30 {
				if !slices.Equal(keeperOf(k, hits...).Hits(), want) || !slices.Equal(topk.Select(hits, k), want) {
					fault = "side by side, other hits are kept"
				}
			}
			done <- fault
		}()
	}
	for range 6 {
		if fault := <-done; fault != "" {
			t.Error(fault)
		}
	}
}
