package cursor_test

import (
	"slices"
	"testing"

	"concord/api"
	"concord/cursor"
)

// This file says the chapter once more: a cursor that goes over the plain postings place by place, and moves counted block by block; and a phrase's frequency by asking every number.

type model struct {
	list  []api.Posting
	place int
	moves int
	asked bool
}

func newModel(list []api.Posting) *model {
	return &model{list: list, place: -1}
}

func (m *model) docAt(place int) int {
	switch place {
	case -1:
		return -1
	case len(m.list):
		return 2147483647
	}
	return m.list[place].Doc
}

func (m *model) doc() int { return m.docAt(m.place) }

func (m *model) next() int {
	if m.place < len(m.list) {
		m.goTo(m.place + 1)
	}
	return m.doc()
}

func (m *model) advance(target int) int {
	if m.doc() >= target || m.place == len(m.list) {
		return m.doc()
	}
	place := 0
	for place < len(m.list) && (place <= m.place || m.list[place].Doc < target) {
		place++
	}
	m.goTo(place)
	return m.doc()
}

func (m *model) goTo(q int) {
	m.moves += modelMoves(m.place, q, len(m.list))
	m.place = q
	m.asked = false
}

func (m *model) here() []int {
	if m.place < 0 || m.place == len(m.list) {
		return nil
	}
	return m.list[m.place].Pos
}

func (m *model) positions() []int {
	if !m.asked {
		m.moves += len(m.here())
	}
	m.asked = true
	return m.here()
}

// modelMoves goes from place to place and counts each block that is left as one, and each place in the block come to as one.
func modelMoves(p, q, n int) int {
	moves, inBlock := 0, 0
	for place := p + 1; place < q; place++ {
		inBlock++
		if (place+1)%16 == 0 {
			moves, inBlock = moves+1, 0
		}
	}
	if q < n {
		return moves + inBlock + 1
	}
	if inBlock > 0 {
		moves++
	}
	return moves + 1
}

// holdStanding holds the calls that move nothing against the model, and the moves behind them.
func holdStanding(t testing.TB, c *cursor.Cursor, m *model) {
	t.Helper()
	if c.Doc() != m.doc() || c.Freq() != len(m.here()) || c.Docs() != len(m.list) || c.Total() != totalOf(m.list) {
		t.Fatalf("at place %d of %d: Doc %d, Freq %d, Docs %d, Total %d, not %d, %d, %d, %d", m.place, len(m.list), c.Doc(), c.Freq(), c.Docs(), c.Total(), m.doc(), len(m.here()), len(m.list), totalOf(m.list))
	}
	if c.Moves() != m.moves {
		t.Fatalf("at place %d of %d: Moves is %d, not %d", m.place, len(m.list), c.Moves(), m.moves)
	}
}

func holdNext(t testing.TB, c *cursor.Cursor, m *model) {
	t.Helper()
	from := m.place
	if got, want := c.Next(), m.next(); got != want {
		t.Fatalf("Next from place %d of %d is %d, not %d", from, len(m.list), got, want)
	}
	holdStanding(t, c, m)
}

func holdAdvance(t testing.TB, c *cursor.Cursor, m *model, target int) {
	t.Helper()
	from := m.place
	if got, want := c.Advance(target), m.advance(target); got != want {
		t.Fatalf("Advance(%d) from place %d of %d is %d, not %d", target, from, len(m.list), got, want)
	}
	if c.Moves() != m.moves {
		t.Fatalf("behind Advance(%d) from place %d to %d of %d Moves is %d, not %d", target, from, m.place, len(m.list), c.Moves(), m.moves)
	}
	holdStanding(t, c, m)
}

func holdPositions(t testing.TB, c *cursor.Cursor, m *model) {
	t.Helper()
	if got, want := c.Positions(), m.positions(); !slices.Equal(got, want) {
		t.Fatalf("Positions at place %d of %d are %v, not %v", m.place, len(m.list), got, want)
	}
	holdStanding(t, c, m)
}

// holdLife holds the moves against what they may be over a whole life.
func holdLife(t testing.TB, c *cursor.Cursor) {
	t.Helper()
	if most := 2*c.Docs() + 1 + c.Total(); c.Moves() < 0 || c.Moves() > most {
		t.Fatalf("Moves is %d, above %d", c.Moves(), most)
	}
}

// inLimits says whether the arguments are ones of which a phrase may be found at all.
func inLimits(lists [][]int, offs []int, slop int) bool {
	bad := func(x int) bool { return x < 0 || x > 2147483646 }
	return len(lists) > 0 && len(lists) == len(offs) && slop >= 0 && slop <= 2147483647 && !slices.ContainsFunc(offs, bad) && !slices.ContainsFunc(lists, func(list []int) bool {
		return slices.ContainsFunc(list, bad)
	})
}

// begins says whether a phrase begins at b.
func begins(lists [][]int, offs []int, slop, b int) bool {
	met := false
	for i, list := range lists {
		if !slices.ContainsFunc(list, func(p int) bool { return b <= p-offs[i] && p-offs[i] <= b+slop }) {
			return false
		}
		met = met || slices.Contains(list, b+offs[i])
	}
	return met
}

// modelFreq asks every b from the least shifted position to the greatest.
func modelFreq(lists [][]int, offs []int, slop int) int {
	if !inLimits(lists, offs, slop) {
		return 0
	}
	least, greatest := 0, 0
	for i, list := range lists {
		for _, p := range list {
			least, greatest = min(least, p-offs[i]), max(greatest, p-offs[i])
		}
	}
	count := 0
	for b := least; b <= greatest; b++ {
		if begins(lists, offs, slop, b) {
			count++
		}
	}
	return count
}

// modelFarFreq asks just the shifted positions, each once: for numbers that lie too far apart to be gone through.
func modelFarFreq(lists [][]int, offs []int, slop int) int {
	if !inLimits(lists, offs, slop) {
		return 0
	}
	found := map[int]bool{}
	for i, list := range lists {
		for _, p := range list {
			if b := p - offs[i]; begins(lists, offs, slop, b) {
				found[b] = true
			}
		}
	}
	return len(found)
}
