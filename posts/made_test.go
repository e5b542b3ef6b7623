package posts_test

import (
	"fmt"
	"math"
	"math/rand"
	"slices"
	"testing"

	"concord/api"
	"concord/posts"
)

func alike(a, b []api.Posting) bool {
	return slices.EqualFunc(a, b, func(x, y api.Posting) bool {
		return x.Doc == y.Doc && slices.Equal(x.Pos, y.Pos)
	})
}

// kept is a copy that shares nothing with the list.
func kept(list []api.Posting) []api.Posting {
	var out []api.Posting
	for _, p := range list {
		out = append(out, api.Posting{Doc: p.Doc, Pos: slices.Clone(p.Pos)})
	}
	return out
}

// counted has n documents, each so far from the one ahead of it, with one position and more in turn.
func counted(n, step int) []api.Posting {
	var list []api.Posting
	for i := range n {
		p := api.Posting{Doc: step * i}
		for k := range 1 + i%4 {
			p.Pos = append(p.Pos, i+(k+i)*k)
		}
		list = append(list, p)
	}
	return list
}

// onePosition has the documents, each with the one position x.
func onePosition(x int, docs ...int) []api.Posting {
	var list []api.Posting
	for _, doc := range docs {
		list = append(list, api.Posting{Doc: doc, Pos: []int{x}})
	}
	return list
}

// positions has one document with so many positions, each so far from the one ahead of it.
func positions(n, step int) []api.Posting {
	p := api.Posting{Doc: 3}
	for i := range n {
		p.Pos = append(p.Pos, step*i)
	}
	return []api.Posting{p}
}

// risingOf are n numbers that rise, the first from 0 on, with gaps below a power of two of at most so many bits.
func risingOf(dice *rand.Rand, n, bits int) []int {
	var list []int
	at := -1
	for range n {
		gap := dice.Intn(1 << dice.Intn(bits+1))
		if at > math.MaxInt-1-gap {
			break
		}
		at += 1 + gap
		list = append(list, at)
	}
	return list
}

// made is a good list of n documents at most, with some positions each.
func made(dice *rand.Rand, n, docBits, pos, posBits int) []api.Posting {
	var list []api.Posting
	for _, doc := range risingOf(dice, n, docBits) {
		if doc > 2147483646 {
			break
		}
		list = append(list, api.Posting{Doc: doc, Pos: risingOf(dice, 1+dice.Intn(pos), posBits)})
	}
	return list
}

// edges are lists at the ends of what is good.
func edges() map[string][]api.Posting {
	var last16, last33 []int
	for i := range 33 {
		last33 = append(last33, 2147483646-32+i)
	}
	last16 = last33[17:]
	return map[string][]api.Posting{
		"none":               nil,
		"first":              onePosition(0, 0),
		"greatest":           onePosition(0, 2147483646),
		"first and greatest": onePosition(1, 0, 2147483646),
		"greatest position":  onePosition(math.MaxInt, 0, 5),
		"two greatest":       {{Doc: 0, Pos: []int{math.MaxInt - 1, math.MaxInt}}},
		"far positions":      {{Doc: 9, Pos: []int{0, math.MaxInt}}, {Doc: 10, Pos: []int{math.MaxInt - 1}}},
		"last block":         onePosition(0, last16...),
		"last blocks":        onePosition(0, last33...),
		"block to greatest":  append(onePosition(7, 0, 1, 2, 3, 4, 5, 6, 7, 8, 9, 10, 11, 12, 13, 14, 15), onePosition(127, 2147483646)...),
		"gaps of 127":        onePosition(127, 127, 255, 383),
		"gaps of 128":        onePosition(128, 128, 257, 386),
		"many positions":     append(positions(1, 1), api.Posting{Doc: 4, Pos: positions(1000, 1)[0].Pos}),
		"positions 127":      positions(127, 128),
		"positions 128":      positions(128, 129),
		"positions 129":      positions(129, 1),
	}
}

// named are lists of many kinds, by what they are.
func named() map[string][]api.Posting {
	lists := edges()
	for _, n := range []int{1, 2, 14, 15, 16, 17, 18, 31, 32, 33, 47, 48, 49, 64, 127, 128, 129, 300} {
		lists[fmt.Sprint("dense ", n)] = counted(n, 1)
		lists[fmt.Sprint("counted ", n)] = counted(n, 10)
		lists[fmt.Sprint("sparse ", n)] = counted(n, 7158278)
	}
	dice := rand.New(rand.NewSource(8))
	for _, n := range []int{1, 5, 16, 17, 40, 100} {
		for i, bits := range []int{0, 1, 3, 8, 31} {
			lists[fmt.Sprint("made ", n, " ", i)] = made(dice, n, bits, 6, 4)
			lists[fmt.Sprint("made far ", n, " ", i)] = made(dice, n, bits, 40, 62)
		}
	}
	return lists
}

// small are lists on whose bytes every change is tried.
func small() [][]api.Posting {
	return [][]api.Posting{
		nil,
		onePosition(0, 0),
		onePosition(math.MaxInt, 2147483646),
		{{Doc: 2, Pos: []int{1, 4}}, {Doc: 5, Pos: []int{0}}},
		{{Doc: 0, Pos: []int{0, 1, 2}}, {Doc: 1, Pos: []int{0, math.MaxInt}}, {Doc: 300, Pos: []int{200, 500}}},
		positions(20, 1),
		positions(130, 3),
		counted(3, 1),
		counted(15, 1),
		counted(16, 9),
		counted(17, 1),
		counted(32, 1),
		counted(33, 5),
		onePosition(0, 0, 1, 2, 3, 4, 5, 6, 7, 8, 9, 10, 11, 12, 13, 14, 15, 16, 17, 18, 19),
	}
}

func mustEncode(t testing.TB, list []api.Posting) []byte {
	t.Helper()
	b, err := posts.Encode(list)
	if err != nil {
		t.Fatalf("Encode of %v: %v", list, err)
	}
	return b
}

func mustOpen(t testing.TB, b []byte) *posts.List {
	t.Helper()
	l, err := posts.Open(b)
	if err != nil || l == nil {
		t.Fatalf("Open of % x: %v", b, err)
	}
	return l
}

// wipeBytes writes over all bytes, spare room included.
func wipeBytes(b []byte) {
	b = b[:cap(b)]
	for i := range b {
		b[i] ^= 0x55
	}
}

// wipeList writes over all that a list holds, spare room included.
func wipeList(list []api.Posting) {
	list = list[:cap(list)]
	for i := range list {
		pos := list[i].Pos[:cap(list[i].Pos)]
		for k := range pos {
			pos[k] = -7
		}
		list[i].Doc = -9
	}
}
