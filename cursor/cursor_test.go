package cursor_test

import (
	"bytes"
	"math"
	"math/rand"
	"slices"
	"testing"

	"concord/api"
	"concord/cursor"
	"concord/posts"
)

// step is one call of a script with what it answers, and the moves behind it.
type step struct {
	call   string
	target int
	doc    int
	moves  int
}

func holdSteps(t *testing.T, c *cursor.Cursor, steps []step) {
	t.Helper()
	for i, s := range steps {
		got := c.Doc()
		switch s.call {
		case "Next":
			got = c.Next()
		case "Advance":
			got = c.Advance(s.target)
		case "Positions":
			c.Positions()
		}
		if got != s.doc || c.Doc() != s.doc || c.Moves() != s.moves {
			t.Fatalf("step %d, %s(%d), answers %d (Doc %d) with %d moves, not %d with %d", i, s.call, s.target, got, c.Doc(), c.Moves(), s.doc, s.moves)
		}
	}
}

// P9.1: the chapter's examples.
func TestExamples(t *testing.T) {
	holdSteps(t, cursorOver(t, tens(20)), []step{
		{"Doc", 0, -1, 0}, {"Next", 0, 0, 1}, {"Advance", 15, 20, 3}, {"Advance", 20, 20, 3}, {"Advance", 165, 170, 6},
		{"Positions", 0, 170, 7}, {"Positions", 0, 170, 7}, {"Advance", 1000, api.EndDoc, 9}, {"Next", 0, api.EndDoc, 9},
	})
	holdSteps(t, cursorOver(t, tens(20)), []step{{"Advance", 160, 160, 2}, {"Advance", api.EndDoc, api.EndDoc, 4}})
	holdSteps(t, cursor.Empty(), []step{{"Doc", 0, -1, 0}, {"Next", 0, api.EndDoc, 1}, {"Next", 0, api.EndDoc, 1}})
}

// P9.1: the moves from place to place, written out: over 33 documents, in blocks of 16, 16 and 1, and over 32, in two whole blocks.
func TestMovesFromPlaceToPlace(t *testing.T) {
	for _, row := range []struct{ n, p, q, moves int }{
		{33, -1, 0, 1}, {33, -1, 1, 2}, {33, -1, 15, 16}, {33, -1, 16, 2}, {33, -1, 31, 17}, {33, -1, 32, 3}, {33, -1, 33, 4},
		{33, 0, 1, 1}, {33, 0, 15, 15}, {33, 0, 16, 2}, {33, 0, 17, 3}, {33, 0, 32, 3}, {33, 0, 33, 4},
		{33, 14, 15, 1}, {33, 14, 16, 2}, {33, 14, 31, 17}, {33, 14, 32, 3}, {33, 14, 33, 4},
		{33, 15, 16, 1}, {33, 15, 17, 2}, {33, 15, 31, 16}, {33, 15, 32, 2}, {33, 15, 33, 3},
		{33, 16, 17, 1}, {33, 16, 31, 15}, {33, 16, 32, 2}, {33, 16, 33, 3},
		{33, 30, 31, 1}, {33, 30, 32, 2}, {33, 30, 33, 3},
		{33, 31, 32, 1}, {33, 31, 33, 2},
		{33, 32, 33, 1},
		{32, -1, 31, 17}, {32, -1, 32, 3}, {32, 0, 32, 3}, {32, 14, 32, 3}, {32, 15, 32, 2}, {32, 16, 32, 2}, {32, 30, 32, 2}, {32, 31, 32, 1},
		{16, -1, 15, 16}, {16, -1, 16, 2}, {16, 0, 16, 2}, {16, 14, 16, 2}, {16, 15, 16, 1},
		{15, -1, 14, 15}, {15, -1, 15, 2}, {15, 13, 15, 2}, {15, 14, 15, 1},
		{17, -1, 16, 2}, {17, -1, 17, 3}, {17, 14, 17, 3}, {17, 15, 17, 2}, {17, 15, 16, 1}, {17, 16, 17, 1},
		{1, -1, 0, 1}, {1, -1, 1, 2}, {1, 0, 1, 1}, {0, -1, 0, 1},
	} {
		c := cursorOver(t, tens(row.n))
		for range row.p + 1 {
			c.Next()
		}
		if c.Moves() != row.p+1 {
			t.Fatalf("%d times Next are %d moves", row.p+1, c.Moves())
		}
		target, doc := 10*row.q, 10*row.q
		if row.q == row.n {
			target, doc = 10*row.n-9, api.EndDoc
		}
		if row.n == 0 {
			target = 0
		}
		if got := c.Advance(target); got != doc || c.Moves()-row.p-1 != row.moves {
			t.Errorf("over %d documents from place %d to %d: Advance(%d) is %d with %d moves, not %d with %d", row.n, row.p, row.q, target, got, c.Moves()-row.p-1, doc, row.moves)
		}
	}
}

// P9.1: the chapter's sum, from every place to every place further on.
func TestMovesByTheSum(t *testing.T) {
	sum := func(p, q, n int) int {
		u := p + 1
		if q == n && u == n {
			return 1
		}
		if q == n {
			return int(math.Ceil(float64(n)/16)) - int(math.Floor(float64(u)/16)) + 1
		}
		if u/16 == q/16 {
			return q - p
		}
		return q/16 - u/16 + q%16 + 1
	}
	for _, n := range sizes() {
		list := tens(n)
		for p := -1; p < n; p++ {
			for q := p + 1; q <= n; q++ {
				c := cursorOver(t, list)
				if p >= 0 {
					c.Advance(10 * p)
				}
				before, target := c.Moves(), 10*q
				if q == n {
					target = math.MaxInt
				}
				c.Advance(target)
				if got := c.Moves() - before; got != sum(p, q, n) {
					t.Fatalf("over %d documents from place %d to %d there are %d moves, not %d", n, p, q, got, sum(p, q, n))
				}
			}
		}
	}
}

// P9.1: Advance to every kind of target from every place, come to by Next or by Advance, the positions there read or not.
func TestAdvanceFromEveryPlace(t *testing.T) {
	for _, list := range named() {
		if len(list) > 40 {
			continue
		}
		b := mustEncode(t, list)
		targets := targetsOf(list)
		for place := -1; place <= len(list); place++ {
			for i, target := range targets {
				c, m := mustOpen(t, b), newModel(list)
				if i%2 == 0 {
					for range place + 1 {
						holdNext(t, c, m)
					}
				} else {
					holdAdvance(t, c, m, m.docAt(place))
				}
				if i%3 == 0 {
					holdPositions(t, c, m)
				}
				holdAdvance(t, c, m, target)
				holdPositions(t, c, m)
				holdAdvance(t, c, m, target)
				holdNext(t, c, m)
				holdLife(t, c)
			}
		}
	}
}

// madeStep makes one call by the dice, and holds it against the model.
func madeStep(t testing.TB, dice *rand.Rand, c *cursor.Cursor, m *model, targets []int) {
	t.Helper()
	switch dice.Intn(6) {
	case 0:
		holdNext(t, c, m)
	case 1:
		holdAdvance(t, c, m, targets[dice.Intn(len(targets))])
	case 2:
		near := m.place + 1 + dice.Intn(20)
		if near < len(m.list) {
			holdAdvance(t, c, m, m.list[near].Doc-dice.Intn(3))
		}
	case 3, 4:
		holdPositions(t, c, m)
	case 5:
		holdStanding(t, c, m)
	}
	holdLife(t, c)
}

// P9.1, P9.3: scripts of all calls.
func TestScripts(t *testing.T) {
	dice := rand.New(rand.NewSource(91))
	for _, list := range named() {
		b := mustEncode(t, list)
		targets := targetsOf(list)
		// Great targets end a script early: most are left out, so that the documents are met.
		few := append(targets[:len(targets)-len(targets)/8:len(targets)-len(targets)/8], math.MaxInt)
		for range 60 {
			c, m := mustOpen(t, b), newModel(list)
			for range 40 {
				before := c.Moves()
				madeStep(t, dice, c, m, few)
				if c.Moves() < before {
					t.Fatalf("Moves falls from %d to %d", before, c.Moves())
				}
			}
		}
	}
}

// P9.1: all scripts of six calls out of few.
func TestShortScripts(t *testing.T) {
	for _, n := range []int{0, 1, 2, 16, 17, 33} {
		list := spaced(n, 1, 2)
		b := mustEncode(t, list)
		calls := []func(c *cursor.Cursor, m *model){
			func(c *cursor.Cursor, m *model) { holdNext(t, c, m) },
			func(c *cursor.Cursor, m *model) { holdPositions(t, c, m) },
			func(c *cursor.Cursor, m *model) { holdAdvance(t, c, m, 0) },
			func(c *cursor.Cursor, m *model) { holdAdvance(t, c, m, 30) },
			func(c *cursor.Cursor, m *model) { holdAdvance(t, c, m, 33) },
			func(c *cursor.Cursor, m *model) { holdAdvance(t, c, m, 65) },
		}
		for script := range 6 * 6 * 6 * 6 * 6 * 6 {
			c, m := mustOpen(t, b), newModel(list)
			for range 6 {
				calls[script%6](c, m)
				script /= 6
			}
			holdLife(t, c)
		}
	}
}

// P9.1: Positions costs once at a document, however often it is asked there and whatever is asked between; what stays doesn't make it cost again.
func TestPositionsOnceAndAgain(t *testing.T) {
	c := cursorOver(t, []api.Posting{{Doc: 2, Pos: []int{1, 4, 9}}, {Doc: 5, Pos: []int{0, 7}}})
	if got := c.Positions(); len(got) != 0 || c.Moves() != 0 || c.Freq() != 0 {
		t.Errorf("ahead of the first: positions %v, %d moves, Freq %d", got, c.Moves(), c.Freq())
	}
	c.Next()
	if c.Freq() != 3 || c.Moves() != 1 {
		t.Errorf("at the first: Freq %d, %d moves", c.Freq(), c.Moves())
	}
	for range 3 {
		if got := c.Positions(); !slices.Equal(got, []int{1, 4, 9}) || c.Moves() != 4 {
			t.Errorf("at the first: positions %v, %d moves", got, c.Moves())
		}
		if c.Advance(2) != 2 || c.Advance(-5) != 2 || c.Doc() != 2 || c.Freq() != 3 || c.Docs() != 2 || c.Total() != 5 || c.Moves() != 4 {
			t.Errorf("at the first: Doc %d, %d moves", c.Doc(), c.Moves())
		}
	}
	c.Advance(3)
	if got := c.Positions(); !slices.Equal(got, []int{0, 7}) || c.Moves() != 7 || c.Freq() != 2 {
		t.Errorf("at the second: positions %v, %d moves", got, c.Moves())
	}
	c.Next()
	if got := c.Positions(); len(got) != 0 || c.Moves() != 8 || c.Freq() != 0 || c.Doc() != api.EndDoc {
		t.Errorf("behind the last: positions %v, %d moves", got, c.Moves())
	}
	if c.Docs() != 2 || c.Total() != 5 {
		t.Errorf("behind the last: Docs %d, Total %d", c.Docs(), c.Total())
	}
}

// P9.1: documents passed over cost no positions.
func TestPositionsPassedOver(t *testing.T) {
	c := cursorOver(t, []api.Posting{{Doc: 0, Pos: rangeOf(100)}, {Doc: 1, Pos: rangeOf(50)}, {Doc: 2, Pos: rangeOf(2)}})
	if c.Advance(2) != 2 || c.Moves() != 3 || len(c.Positions()) != 2 || c.Moves() != 5 {
		t.Errorf("at %d with %d moves", c.Doc(), c.Moves())
	}
}

// P9.1
func TestEmpty(t *testing.T) {
	opened, err := cursor.Open([]byte{0, 0})
	if err != nil {
		t.Fatal(err)
	}
	for _, first := range []func(c *cursor.Cursor) int{
		(*cursor.Cursor).Next,
		func(c *cursor.Cursor) int { return c.Advance(0) },
		func(c *cursor.Cursor) int { return c.Advance(api.EndDoc) },
		func(c *cursor.Cursor) int { return c.Advance(math.MaxInt) },
	} {
		c := cursor.Empty()
		m := newModel(nil)
		holdStanding(t, c, m)
		holdAdvance(t, c, m, -1)
		holdAdvance(t, c, m, math.MinInt)
		holdPositions(t, c, m)
		if c.Doc() != -1 || c.Moves() != 0 {
			t.Errorf("an empty cursor stands at %d with %d moves", c.Doc(), c.Moves())
		}
		for range 3 {
			if first(c) != api.EndDoc || c.Doc() != api.EndDoc || c.Moves() != 1 || len(c.Positions()) != 0 || c.Freq() != 0 {
				t.Errorf("an empty cursor comes to %d with %d moves", c.Doc(), c.Moves())
			}
		}
	}
	if other := cursor.Empty(); other.Doc() != -1 || opened.Doc() != -1 || opened.Docs() != 0 || opened.Next() != api.EndDoc || opened.Moves() != 1 {
		t.Error("empty cursors aren't apart from each other, or not as the opened one")
	}
}

// P9.1: Open refuses what layer 8's Open refuses, by its error.
func TestOpenRefuses(t *testing.T) {
	refused := func(b []byte) {
		t.Helper()
		before := bytes.Clone(b)
		if c, err := cursor.Open(b); err != api.ErrCorrupt || c != nil || !bytes.Equal(b, before) {
			t.Errorf("Open of % x answers %v and %v", b, c, err)
		}
	}
	refused(nil)
	for _, text := range []string{"\x00", "\x01", "\x00\x00\x00", "\x00\x01", "\x01\x00", "\x01\x01\x00\x05\x01\x00\x01\x00\x01\x01", "\xff\xff\xff\xff\xff\xff\xff\xff\x7f"} {
		refused([]byte(text))
	}
	whole := mustEncode(t, spaced(20, 3, 7))
	for n := range whole {
		refused(whole[:n])
	}
	refused(append(bytes.Clone(whole), 0))
	for i := range whole {
		b := bytes.Clone(whole)
		for _, by := range []byte{1, 0x80} {
			b[i] ^= by
			_, want := posts.Open(b)
			c, err := cursor.Open(b)
			if err != want || (c == nil) != (err != nil) {
				t.Fatalf("Open of % x answers %v and %v, not %v", b, c, err, want)
			}
		}
	}
}

// P9.1: a Cursor's Doc and Moves are its Base's.
func TestBase(t *testing.T) {
	c := cursorOver(t, tens(40))
	base := &c.Base
	if base.Doc() != -1 || base.Moves() != 0 {
		t.Error("a new Base", base.Doc(), base.Moves())
	}
	for _, target := range []int{0, 55, 170, 171, 390, 391} {
		c.Advance(target)
		c.Positions()
		if base.Doc() != c.Doc() || base.Moves() != c.Moves() {
			t.Errorf("the Base is at %d with %d moves, the Cursor at %d with %d", base.Doc(), base.Moves(), c.Doc(), c.Moves())
		}
	}
	if base.Doc() != api.EndDoc {
		t.Error("the Base ends at", base.Doc())
	}
}

// P9.2
func TestNextGivesTheDocuments(t *testing.T) {
	for name, list := range named() {
		c := cursorOver(t, list)
		for i, p := range list {
			if got := c.Next(); got != p.Doc || c.Doc() != p.Doc || c.Freq() != len(p.Pos) || c.Moves() != i+1 {
				t.Fatalf("%s: Next number %d is %d with %d positions and %d moves", name, i, got, c.Freq(), c.Moves())
			}
		}
		for range 20 {
			if got := c.Next(); got != api.EndDoc || c.Doc() != api.EndDoc || c.Moves() != len(list)+1 {
				t.Fatalf("%s: behind the last Next is %d with %d moves", name, got, c.Moves())
			}
		}
	}
}

// P9.2
func TestAdvanceIsNextAgainAndAgain(t *testing.T) {
	for name, list := range named() {
		if len(list) > 50 {
			continue
		}
		b := mustEncode(t, list)
		for first := -1; first < len(list); first += 5 {
			for _, target := range targetsOf(list) {
				far, near := mustOpen(t, b), mustOpen(t, b)
				for range first + 1 {
					far.Next()
					near.Next()
				}
				got := far.Advance(target)
				for near.Doc() < target && near.Doc() != api.EndDoc {
					near.Next()
				}
				if got != near.Doc() || far.Doc() != got || !slices.Equal(far.Positions(), near.Positions()) {
					t.Fatalf("%s: Advance(%d) from place %d comes to %d, Next to %d", name, target, first, got, near.Doc())
				}
				if far.Next() != near.Next() || !slices.Equal(far.Positions(), near.Positions()) {
					t.Fatalf("%s: behind Advance(%d) from place %d Next comes to %d and %d", name, target, first, far.Doc(), near.Doc())
				}
			}
		}
	}
}

// P9.3: the dearest lives: all positions read, by Next, by Advance from document to document, and by as many blocks left as there are.
func TestMovesOfAWholeLife(t *testing.T) {
	for _, list := range named() {
		b := mustEncode(t, list)
		for stride := 1; stride < 40; stride++ {
			c, m := mustOpen(t, b), newModel(list)
			for at := stride - 1; at < len(list); at += stride {
				holdAdvance(t, c, m, list[at].Doc)
				holdPositions(t, c, m)
				holdLife(t, c)
			}
			holdAdvance(t, c, m, api.EndDoc)
			holdNext(t, c, m)
			holdPositions(t, c, m)
			holdLife(t, c)
		}
		c := cursorOver(t, list)
		for c.Next() != api.EndDoc {
			c.Positions()
		}
		if want := len(list) + 1 + totalOf(list); c.Moves() != want {
			t.Fatalf("Next and Positions over %d documents are %d moves, not %d", len(list), c.Moves(), want)
		}
	}
}

// Rule 5: the bytes stay, and aren't kept.
func TestOpenKeepsNoBytes(t *testing.T) {
	for name, list := range named() {
		room := append(mustEncode(t, list), 1, 2, 3)
		b := room[:len(room)-3]
		before := bytes.Clone(room)
		c, other := mustOpen(t, b), mustOpen(t, b)
		m, second := newModel(list), newModel(list)
		holdNext(t, c, m)
		if !bytes.Equal(room, before) {
			t.Fatalf("the bytes of %s were changed", name)
		}
		wipe(room)
		for range len(list) + 2 {
			holdPositions(t, c, m)
			holdNext(t, c, m)
		}
		for i := 7; i < len(list); i += 7 {
			holdAdvance(t, other, second, list[i].Doc)
			holdPositions(t, other, second)
		}
	}
}

// Rule 5: the positions handed out are new memory each time.
func TestPositionsAreNew(t *testing.T) {
	for name, list := range named() {
		c, m := cursorOver(t, list), newModel(list)
		for range list {
			holdNext(t, c, m)
			first, second := c.Positions(), c.Positions()
			m.positions()
			wipe(second)
			if !slices.Equal(first, m.here()) {
				t.Fatalf("%s: two lists of positions share something", name)
			}
			wipe(first)
			_ = append(first, 1, 2, 3)
			holdPositions(t, c, m)
		}
	}
}

// Rule 7: two cursors over the same bytes go each its own way.
func TestTwoCursors(t *testing.T) {
	dice := rand.New(rand.NewSource(97))
	list, fewer := spaced(50, 1, 3), tens(20)
	b, d := mustEncode(t, list), mustEncode(t, fewer)
	for range 200 {
		cursors := []*cursor.Cursor{mustOpen(t, b), mustOpen(t, b), mustOpen(t, d)}
		models := []*model{newModel(list), newModel(list), newModel(fewer)}
		for range 60 {
			i := dice.Intn(3)
			madeStep(t, dice, cursors[i], models[i], []int{-1, 0, 9, 30, 40, 41, 80, 120, 190})
			for k, c := range cursors {
				holdStanding(t, c, models[k])
			}
		}
	}
}

// Blocks that are passed over aren't read: their postings would take room.
func TestAdvanceReadsOneBlock(t *testing.T) {
	b := mustEncode(t, spaced(4096, 0, 2))
	c := mustOpen(t, b)
	target := 0
	perBlock := testing.AllocsPerRun(20, func() {
		target += 32
		c.Advance(target)
	})
	far := mustOpen(t, b)
	target = 0
	perFar := testing.AllocsPerRun(4, func() {
		target += 1600
		far.Advance(target)
	})
	if perFar > 2*perBlock {
		t.Errorf("Advance over 50 blocks takes %v pieces of room, over one %v", perFar, perBlock)
	}
	near := mustOpen(t, b)
	near.Next()
	if n := testing.AllocsPerRun(10, func() { near.Next() }); n > 0 {
		t.Errorf("Next in a block takes %v pieces of room", n)
	}
}

func FuzzCursor(f *testing.F) {
	f.Add(int64(1), 20, 30)
	f.Add(int64(2), 33, 60)
	f.Add(int64(3), 0, 4)
	f.Fuzz(func(t *testing.T, seed int64, docs, steps int) {
		dice := rand.New(rand.NewSource(seed))
		list := madePosts(dice, int(uint(docs)%200))
		c, m := cursorOver(t, list), newModel(list)
		targets := targetsOf(list)
		for range uint(steps) % 200 {
			madeStep(t, dice, c, m, targets)
		}
	})
}
