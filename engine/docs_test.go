package engine_test

import (
	"math"
	"slices"
	"strings"
	"testing"

	"concord/api"
	"concord/engine"
	"concord/segment"
)

// wantGet says what Get answers.
func wantGet(t *testing.T, e *engine.Engine, id int, want []api.Value) {
	t.Helper()
	if d, err := e.Get(id); d.Id != id || !slices.Equal(d.Values, want) || err != nil {
		t.Errorf("Get(%d): %s, %v, want %s", id, brief(d), err, brief(want))
	}
}

// wantNoDoc says that an id is that of no live document.
func wantNoDoc(t *testing.T, e *engine.Engine, ids ...int) {
	t.Helper()
	live := e.Live()
	for _, id := range ids {
		if d, err := e.Get(id); d.Id != 0 || len(d.Values) > 0 || err != api.ErrDoc {
			t.Errorf("Get(%d): %s, %v", id, brief(d), err)
		}
		if err := e.Delete(id); err != api.ErrDoc {
			t.Errorf("Delete(%d): %v", id, err)
		}
		if got, err := e.Update(id, nil); got != 0 || err != api.ErrDoc {
			t.Errorf("Update(%d): %d, %v", id, got, err)
		}
	}
	if e.Live() != live {
		t.Errorf("%d documents are live, not %d as ahead of it", e.Live(), live)
	}
}

// outsideIds are ids that no document of the tests here has.
func outsideIds() []int {
	return []int{-1, -2, math.MinInt, math.MaxInt, api.MaxId, api.MaxId - 1, 1 << 32, -1 << 32}
}

// badValues are values over the whole schema that are no good document, with the error.
func badValues() map[error][][]api.Value {
	many := slices.Repeat(value("tag", "a"), api.MaxValues+1)
	long := strings.Repeat("a", api.MaxText+1)
	return map[error][][]api.Value{
		api.ErrField: {value("nosuch", "red"), value("", "red"), value("Title", "red"), value("nosuch", long), {{Name: "title", Text: "red"}, {Name: "x", Text: ""}}, {{Name: "x"}, {Name: "title", Text: long}}, {{Name: "x"}, {Name: "price", Text: "x"}}},
		api.ErrLimit: {value("title", long), value("tag", long), value("price", long), many, append(slices.Clone(many), api.Value{Name: "x"}), {{Name: "title", Text: "red"}, {Name: "title", Text: long}, {Name: "x"}}},
		api.ErrValue: {value("tag", ""), value("tag", longest+"w"), value("price", ""), value("price", "x"), value("price", "-"), value("price", "9223372036854775808"), {{Name: "price", Text: "1"}, {Name: "price", Text: "1 "}, {Name: "x"}}},
	}
}

// P25.1: values that layer 4 refuses change nothing; the next document has the next id.
func TestBadValues(t *testing.T) {
	for want, rows := range badValues() {
		for _, values := range rows {
			b := newBench(t, mustParse(t, wholeSchema))
			b.add(value("title", "red"))
			b.add(values)
			b.update(0, values)
			b.cut()
			b.update(0, values)
			b.look()
			e := b.engines[0]
			if id, err := e.Add(values); id != 0 || err != want {
				t.Errorf("Add of %s: %d, %v, want %v", brief(values), id, err, want)
			}
			if id, err := e.Update(0, values); id != 0 || err != want {
				t.Errorf("Update to %s: %d, %v, want %v", brief(values), id, err, want)
			}
			if id, err := e.Update(1, values); id != 0 || err != api.ErrDoc {
				t.Errorf("Update of no document to %s: %d, %v", brief(values), id, err)
			}
			b.add(value("title", "fox"))
			b.index()
			if b.model.next != 2 {
				t.Errorf("the next id is %d", b.model.next)
			}
		}
	}
}

// goodValues are values over the whole schema that are a good document, up to the limits.
func goodValues() [][]api.Value {
	return [][]api.Value{
		nil, {}, value("title", ""), value("title", "The Red, red \xff\x00 fox"), value("price", "-007"), value("price", "-0"), value("tag", longest), value("tag", " "),
		{{Name: "body", Text: "x"}, {Name: "title", Text: "y"}, {Name: "body", Text: "x"}, {Name: "price", Text: "00000"}, {Name: "tag", Text: "A"}},
		value("title", strings.Repeat("a", api.MaxText)), value("price", strings.Repeat("0", api.MaxText)), slices.Repeat(value("title", "a b"), api.MaxValues),
	}
}

// P25.1: Get answers the values as they were handed in, while the document waits, out of a segment, and out of a merged one.
func TestGet(t *testing.T) {
	e := mustNew(t, wholeSchema)
	rows := goodValues()
	for i, values := range rows {
		if id, err := e.Add(values); id != i || err != nil {
			t.Fatalf("Add of %s: %d, %v", brief(values), id, err)
		}
		if i == 4 {
			e.Cut()
		}
	}
	all := func() {
		t.Helper()
		for i, values := range rows {
			wantGet(t, e, i, values)
		}
		wantNoDoc(t, e, append(outsideIds(), len(rows), len(rows)+1)...)
	}
	all()
	e.Cut()
	all()
	if err := e.Merge(0, 2); err != nil {
		t.Fatal(err)
	}
	all()
	e = mustFrom(t, e.Index())
	all()
	for i := range rows {
		mustDelete(t, e, i)
		wantNoDoc(t, e, i)
		if e.Live() != len(rows)-1-i {
			t.Errorf("%d documents are live behind Delete(%d)", e.Live(), i)
		}
	}
}

// P25.1: ids are given one behind the other, never twice, whatever has been deleted, cut or merged.
func TestIds(t *testing.T) {
	e := mustNew(t, exampleSchema)
	next := 0
	add := func() {
		t.Helper()
		if id, err := e.Add(value("title", "red")); id != next || err != nil {
			t.Fatalf("Add: %d, %v, want %d", id, err, next)
		}
		next++
	}
	update := func(id int) {
		t.Helper()
		if got, err := e.Update(id, value("title", "fox")); got != next || err != nil {
			t.Fatalf("Update(%d): %d, %v, want %d", id, got, err, next)
		}
		wantNoDoc(t, e, id)
		next++
	}
	add()
	mustDelete(t, e, 0)
	wantNoDoc(t, e, 0)
	add()
	update(1)
	update(2)
	e.Cut()
	wantNoDoc(t, e, 0, 1, 2)
	wantSegments(t, e, api.SegInfo{Docs: 1, Live: 1})
	update(3)
	wantSegments(t, e, api.SegInfo{Docs: 1})
	if err := e.Merge(0, 1); err != nil {
		t.Fatal(err)
	}
	wantSegments(t, e)
	add()
	mustDelete(t, e, 4, 5)
	e.Cut()
	wantSegments(t, e)
	add()
	if _, err := e.DeleteBy("*:*"); err != nil {
		t.Fatal(err)
	}
	add()
	if x := e.Index(); x.Next != next || e.Live() != 1 {
		t.Errorf("the next id is %d, not %d", x.Next, next)
	}
}

// P25.1: the next id at its limit.
func TestMaxId(t *testing.T) {
	x := mustNew(t, exampleSchema).Index()
	for _, below := range []int{0, 1, 2} {
		x.Next = api.MaxId - below
		e := mustFrom(t, x)
		for i := range below {
			if id, err := e.Add(value("title", "red")); id != x.Next+i || err != nil {
				t.Errorf("Add with %d ids left: %d, %v", below-i, id, err)
			}
		}
		full := func() {
			t.Helper()
			if id, err := e.Add(nil); id != 0 || err != api.ErrLimit {
				t.Errorf("Add without an id left: %d, %v", id, err)
			}
			// What is wrong with the values comes first.
			if id, err := e.Add(value("nosuch", "")); id != 0 || err != api.ErrField {
				t.Errorf("Add of no good document without an id left: %d, %v", id, err)
			}
			for id := x.Next; id < api.MaxId; id++ {
				if got, err := e.Update(id, value("title", "fox")); got != 0 || err != api.ErrLimit {
					t.Errorf("Update(%d) without an id left: %d, %v", id, got, err)
				}
				if got, err := e.Update(id, value("tag", "")); got != 0 || err != api.ErrValue {
					t.Errorf("Update(%d) to no good document without an id left: %d, %v", id, got, err)
				}
				wantGet(t, e, id, value("title", "red"))
			}
			for _, id := range []int{api.MaxId, x.Next - 1, 0} {
				if got, err := e.Update(id, value("tag", "")); got != 0 || err != api.ErrDoc {
					t.Errorf("Update(%d) without an id left: %d, %v", id, got, err)
				}
			}
			if e.Live() != below {
				t.Errorf("%d documents are live, not %d", e.Live(), below)
			}
		}
		full()
		e.Cut()
		full()
		e = mustFrom(t, e.Index())
		full()
		if n, err := e.DeleteBy("red"); n != below || err != nil {
			t.Errorf("DeleteBy: %d, %v", n, err)
		}
		if _, err := e.Add(nil); err != api.ErrLimit {
			t.Errorf("Add without an id left: %v", err)
		}
		if got := e.Index().Next; got != api.MaxId {
			t.Errorf("the next id is %d", got)
		}
	}
}

// P25.1: as soon as MaxDocs documents wait they are cut; those that were deleted meanwhile don't wait.
func TestMaxDocs(t *testing.T) {
	e := mustNew(t, exampleSchema)
	add := func(n int) {
		t.Helper()
		for range n {
			if _, err := e.Add(value("title", "red")); err != nil {
				t.Fatal(err)
			}
		}
	}
	full := api.SegInfo{Docs: api.MaxDocs, Live: api.MaxDocs}
	add(api.MaxDocs - 1)
	wantSegments(t, e)
	// Where one waits no more, another has room.
	mustDelete(t, e, 17)
	add(1)
	if _, err := e.Update(18, value("title", "fox")); err != nil {
		t.Fatal(err)
	}
	wantSegments(t, e)
	if _, err := e.Add(value("nosuch", "")); err != api.ErrField {
		t.Error(err)
	}
	wantSegments(t, e)
	add(1)
	wantSegments(t, e, full)
	if e.Live() != api.MaxDocs {
		t.Errorf("%d documents are live", e.Live())
	}
	e.Cut()
	wantSegments(t, e, full)
	add(api.MaxDocs - 1)
	wantSegments(t, e, full)
	// Of a document of the segment, Update lets one more wait.
	if id, err := e.Update(19, value("title", "dog")); id != 2*api.MaxDocs+1 || err != nil {
		t.Errorf("Update: %d, %v", id, err)
	}
	wantSegments(t, e, api.SegInfo{Docs: api.MaxDocs, Live: api.MaxDocs - 1}, full)
	wantNoDoc(t, e, 17, 18, 19)
	wantGet(t, e, api.MaxDocs, value("title", "fox"))
	if n, err := e.Count("red"); n != 2*api.MaxDocs-3 || err != nil {
		t.Errorf("Count: %d, %v", n, err)
	}
	e = mustFrom(t, e.Index())
	add(api.MaxDocs - 1)
	if got := e.Segments(); len(got) != 2 {
		t.Errorf("Segments: %v", got)
	}
	add(1)
	if got := e.Segments(); len(got) != 3 || got[2] != full {
		t.Errorf("Segments: %v", got)
	}
	if _, ok := lastPart(e).Local(3*api.MaxDocs + 1); !ok {
		t.Error("the last document isn't in the last segment")
	}
}

// lastPart is the last one of an engine's parts.
func lastPart(e *engine.Engine) *segment.Part {
	parts := e.Parts()
	return parts[len(parts)-1]
}

// P25.1: documents that wait and documents of segments deleted in all orders.
func TestDeleteInEveryOrder(t *testing.T) {
	orders := permutations([]int{0, 1, 2, 3, 4})
	for cut := range 6 {
		for _, order := range orders {
			b := newBench(t, mustParse(t, "t:text"))
			for i := range 5 {
				if i == cut || i == cut-3 {
					b.cut()
				}
				b.add(value("t", "red"))
			}
			for _, id := range order {
				b.delete(id)
				b.delete(id)
				b.look()
			}
			if b.engines[0].Live() != 0 {
				t.Fatal("not all are dead")
			}
		}
	}
}

// permutations are all orders of a list.
func permutations(list []int) [][]int {
	if len(list) == 0 {
		return [][]int{nil}
	}
	var out [][]int
	for i, x := range list {
		rest := slices.Concat(list[:i], list[i+1:])
		for _, order := range permutations(rest) {
			out = append(out, append([]int{x}, order...))
		}
	}
	return out
}
