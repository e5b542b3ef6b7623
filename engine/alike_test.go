package engine_test

import (
	"math"
	"slices"
	"testing"

	"concord/api"
	"concord/engine"
)

// twins are two engines to which the same is done, but for rows of what may not be seen, which the second one alone gets.
type twins struct {
	*testing.T
	m          *maker
	plain, odd *engine.Engine
	schema     api.Schema
	next       int
}

// unseen does a row of what may change no answer.
func (w *twins) unseen() {
	for range w.m.roll(6) {
		segs := len(w.odd.Segments())
		switch w.m.roll(8) {
		case 0:
			w.odd.Cut()
		case 1, 2:
			from := w.m.roll(segs + 1)
			w.odd.Merge(from, 1+w.m.roll(segs-from+1))
		case 3:
			w.odd.Tidy(2 + w.m.roll(3))
		case 4:
			w.odd.Optimise(w.m.coin())
		case 5:
			w.odd.Index()
		case 6:
			w.odd.Parts()
		case 7:
			w.odd.Program(w.m.query(w.schema))
		}
	}
}

// same says that both answer alike.
func (w *twins) same(call string, a, b any, errA, errB error) {
	w.Helper()
	if brief(a) != brief(b) || errA != errB {
		w.Fatalf("%s: %s, %v, and of the other %s, %v", call, brief(a), errA, brief(b), errB)
	}
}

// ask asks both the same.
func (w *twins) ask() {
	w.Helper()
	q := w.m.query(w.schema)
	k := pickOf(w.m, 0, 1, 3, math.MaxInt)
	a, errA := w.plain.Search(q, k)
	b, errB := w.odd.Search(q, k)
	w.same("Search "+q, a, b, errA, errB)
	h := w.m.hit(a)
	a, errA = w.plain.After(q, h, k)
	b, errB = w.odd.After(q, h, k)
	w.same("After "+q, a, b, errA, errB)
	n, errN := w.plain.Count(q)
	m, errM := w.odd.Count(q)
	w.same("Count "+q, n, m, errN, errM)
	id := w.m.id(w.next)
	x, errX := w.plain.Get(id)
	y, errY := w.odd.Get(id)
	w.same("Get", x.Id, y.Id, errX, errY)
	if !slices.Equal(x.Values, y.Values) {
		w.Fatalf("Get(%d): %v, and of the other %v", id, x, y)
	}
	w.same("Live", w.plain.Live(), w.odd.Live(), nil, nil)
}

// write changes both alike.
func (w *twins) write() {
	w.Helper()
	switch w.m.roll(10) {
	case 0:
		q := w.m.query(w.schema)
		n, errN := w.plain.DeleteBy(q)
		m, errM := w.odd.DeleteBy(q)
		w.same("DeleteBy "+q, n, m, errN, errM)
	case 1, 2:
		id := w.m.id(w.next)
		w.same("Delete", id, id, w.plain.Delete(id), w.odd.Delete(id))
	case 3:
		id, values := w.m.id(w.next), w.m.values(w.schema)
		n, errN := w.plain.Update(id, values)
		m, errM := w.odd.Update(id, values)
		w.same("Update", n, m, errN, errM)
		w.next = max(w.next, n+1)
	default:
		values := w.m.values(w.schema)
		n, errN := w.plain.Add(values)
		m, errM := w.odd.Add(values)
		w.same("Add", n, m, errN, errM)
		w.next = max(w.next, n+1)
	}
}

// P25.6, P3: drawn rows of what may change no answer, between calls that are made of an engine without them.
func TestWhatChangesNoAnswer(t *testing.T) {
	for seed := range int64(60) {
		m := newMaker(2560 + seed)
		s := m.schema(t)
		w := &twins{T: t, m: m, schema: s}
		w.plain, _ = engine.New(s)
		w.odd, _ = engine.New(s)
		for range 80 {
			w.write()
			w.unseen()
			if m.roll(3) == 0 {
				w.ask()
			}
		}
	}
}

// P3: the same documents added, and of these the same live, whenever they were deleted and however they were cut and merged.
func TestSameLiveDocuments(t *testing.T) {
	m := newMaker(258)
	for range 40 {
		s := m.schema(t)
		var docs [][]api.Value
		var dead []int
		for i := range 3 + m.roll(20) {
			docs = append(docs, m.values(s))
			if m.roll(3) == 0 {
				dead = append(dead, i)
			}
		}
		w := &twins{T: t, m: m, schema: s, next: len(docs)}
		w.plain, _ = engine.New(s)
		w.odd, _ = engine.New(s)
		for i, values := range docs {
			w.plain.Add(values)
			w.odd.Add(values)
			if slices.Contains(dead, i) && m.coin() {
				mustDelete(t, w.odd, i)
			}
			w.unseen()
		}
		for _, i := range dead {
			mustDelete(t, w.plain, i)
			w.odd.Delete(i)
		}
		w.odd.Optimise(false)
		for range 20 {
			w.ask()
			w.unseen()
		}
	}
}

// Rule 7: the same calls answer the same, of engines that were made alike.
func TestAskedAgain(t *testing.T) {
	for seed := range int64(10) {
		var first api.Index
		for round := range 2 {
			m := newMaker(seed)
			b := newBench(t, m.schema(t))
			for range 60 {
				b.step(m)
			}
			b.cut()
			x := b.engines[0].Index()
			if round == 1 {
				b.holdIndex(first, x)
			}
			first = x
		}
	}
}
