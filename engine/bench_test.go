package engine_test

import (
	"bytes"
	"fmt"
	"math"
	"slices"
	"strings"
	"testing"

	"concord/api"
	"concord/bind"
	"concord/compile"
	"concord/engine"
	"concord/expand"
	"concord/isa"
	"concord/plan"
	"concord/rewrite"
	"concord/score"
	"concord/segment"
	"concord/topk"
	"concord/vm"
)

// bench does the same with engines and with the model, and holds every answer of theirs against the model's.
type bench struct {
	testing.TB
	model   *model
	engines []*engine.Engine
	on      []bool // of each engine: the optimiser
	log     []string
	met     kinds
}

func newBench(t testing.TB, s api.Schema) *bench {
	t.Helper()
	e, err := engine.New(s)
	if e == nil || err != nil {
		t.Fatalf("New over %s: %v, %v", brief(s), e, err)
	}
	return &bench{TB: t, model: &model{schema: s}, engines: []*engine.Engine{e}, on: []bool{true}, met: kinds{}}
}

// wrong ends the test with what was done up to here.
func (b *bench) wrong(format string, args ...any) {
	b.Helper()
	last := b.log[max(0, len(b.log)-40):]
	b.Fatalf("%s\nbehind %s", fmt.Sprintf(format, args...), strings.Join(last, "; "))
}

func (b *bench) note(format string, args ...any) {
	b.log = append(b.log, brief(fmt.Sprintf(format, args...)))
}

func (b *bench) noteError(call string, err error) {
	if err != nil {
		call += ": " + err.Error()
	}
	b.met[call]++
}

func (b *bench) add(values []api.Value) {
	b.Helper()
	b.note("add %q", values)
	want, wantErr := b.model.add(values)
	for _, e := range b.engines {
		if id, err := e.Add(values); id != want || err != wantErr {
			b.wrong("Add: %d, %v, want %d, %v", id, err, want, wantErr)
		}
	}
	b.noteError("add", wantErr)
}

func (b *bench) update(id int, values []api.Value) {
	b.Helper()
	b.note("update %d %q", id, values)
	want, wantErr := b.model.update(id, values)
	for _, e := range b.engines {
		if got, err := e.Update(id, values); got != want || err != wantErr {
			b.wrong("Update: %d, %v, want %d, %v", got, err, want, wantErr)
		}
	}
	b.noteError("update", wantErr)
}

func (b *bench) delete(id int) {
	b.Helper()
	b.note("delete %d", id)
	waits := slices.ContainsFunc(b.model.waits, func(d api.Doc) bool { return d.Id == id })
	want := b.model.delete(id)
	for _, e := range b.engines {
		if err := e.Delete(id); err != want {
			b.wrong("Delete: %v, want %v", err, want)
		}
	}
	b.noteError("delete", want)
	b.met.note("delete one that waits", waits)
	b.met.note("delete a given one", want != nil && id >= 0 && id < b.model.next)
}

func (b *bench) deleteBy(q string) {
	b.Helper()
	b.note("delete by %q", q)
	b.model.cut()
	hits, wantErr := b.model.corpus().outcome(q)
	for _, h := range hits {
		b.model.delete(h.Id)
	}
	for _, e := range b.engines {
		if n, err := e.DeleteBy(q); n != len(hits) || err != wantErr {
			b.wrong("DeleteBy: %d, %v, want %d, %v", n, err, len(hits), wantErr)
		}
	}
	b.noteError("delete by", wantErr)
	b.met.note("delete some", len(hits) > 0 && len(b.model.live()) > 0)
}

func (b *bench) cut() {
	b.Helper()
	b.note("cut")
	b.met.note("cut some", len(b.model.waits) > 0)
	b.met.note("cut none", len(b.model.waits) == 0)
	b.model.cut()
	for _, e := range b.engines {
		e.Cut()
	}
}

func (b *bench) merge(from, n int) {
	b.Helper()
	b.note("merge %d %d", from, n)
	before := len(b.model.segs)
	want := b.model.merge(from, n)
	for _, e := range b.engines {
		if err := e.Merge(from, n); err != want {
			b.wrong("Merge: %v, want %v", err, want)
		}
	}
	b.noteError("merge", want)
	b.met.note("merge to none", want == nil && before-len(b.model.segs) == n)
	b.met.note("merge some", want == nil && 1 < n && n < before)
}

func (b *bench) tidy(fan int) {
	b.Helper()
	b.note("tidy %d", fan)
	want := b.model.tidy(fan)
	for _, e := range b.engines {
		if n := e.Tidy(fan); n != want {
			b.wrong("Tidy: %d, want %d", n, want)
		}
	}
	b.met.note("tidy none", want == 0)
	b.met.note("tidy once", want == 1)
	b.met.note("tidy often", want > 1)
}

func (b *bench) optimise(i int, on bool) {
	b.note("optimise %d %v", i, on)
	b.engines[i].Optimise(on)
	b.on[i] = on
}

// from puts the engine of an engine's index beside the others, in the place of the last one if there are many.
func (b *bench) from(i int) {
	b.Helper()
	b.note("from %d", i)
	b.look()
	b.met.note("from with some that wait", len(b.model.waits) > 0)
	b.met.note("from with some dead", len(b.model.live()) < b.model.next)
	x := b.engines[i].Index()
	e, err := engine.From(x)
	if e == nil || err != nil {
		b.wrong("From of Index: %v, %v", e, err)
	}
	b.cut()
	if len(b.engines) == 3 {
		b.engines, b.on = slices.Delete(b.engines, 0, 1), slices.Delete(b.on, 0, 1)
	}
	b.engines, b.on = append(b.engines, e), append(b.on, true)
}

// look holds what doesn't cut.
func (b *bench) look() {
	b.Helper()
	b.note("look")
	segments, live := b.model.segments(), b.model.live()
	for _, e := range b.engines {
		if got := e.Segments(); !slices.Equal(got, segments) {
			b.wrong("Segments: %v, want %v", got, segments)
		}
		if n := e.Live(); n != len(live) {
			b.wrong("Live: %d, want %d", n, len(live))
		}
		if s := e.Schema(); !slices.Equal(s.Fields, b.model.schema.Fields) {
			b.wrong("Schema: %v", s)
		}
	}
	for _, d := range live {
		b.get(d.Id)
	}
	ids := []int{-1, 0, 1, b.model.next - 1, b.model.next, b.model.next + 1, math.MinInt, math.MaxInt, api.MaxId - 1, api.MaxId}
	for _, g := range b.model.segs {
		for _, d := range g.docs {
			ids = append(ids, d.Id, d.Id+1)
		}
	}
	for _, id := range ids {
		b.get(id)
	}
}

func (b *bench) get(id int) {
	b.Helper()
	want, wantErr := b.model.get(id)
	for _, e := range b.engines {
		if d, err := e.Get(id); d.Id != want.Id || !slices.Equal(d.Values, want.Values) || err != wantErr {
			b.wrong("Get(%d): %v, %v, want %v, %v", id, d, err, want, wantErr)
		}
	}
}

// index holds Index and Parts, which cut.
func (b *bench) index() {
	b.Helper()
	b.note("index")
	want := b.model.index(b)
	for i, e := range b.engines {
		// Each of the two must cut by itself.
		if (i+len(b.log))%2 == 0 {
			b.holdParts(e.Parts(), want)
		}
		b.holdIndex(e.Index(), want)
		b.holdParts(e.Parts(), want)
	}
	b.look()
}

func (b *bench) holdIndex(x, want api.Index) {
	b.Helper()
	if !slices.Equal(x.Schema.Fields, want.Schema.Fields) || x.Next != want.Next || len(x.Pieces) != len(want.Pieces) {
		b.wrong("Index: %s, %d, %d pieces, want %s, %d, %d pieces", brief(x.Schema), x.Next, len(x.Pieces), brief(want.Schema), want.Next, len(want.Pieces))
	}
	for i, p := range x.Pieces {
		if !bytes.Equal(p.Image, want.Pieces[i].Image) || !slices.Equal(p.Dead, want.Pieces[i].Dead) {
			b.wrong("Index: the piece %d has the dead %v, want %v, or an image that isn't of its documents", i, p.Dead, want.Pieces[i].Dead)
		}
	}
}

func (b *bench) holdParts(parts []*segment.Part, want api.Index) {
	b.Helper()
	if len(parts) != len(want.Pieces) {
		b.wrong("%d parts, want %d", len(parts), len(want.Pieces))
	}
	for i, p := range parts {
		dead := want.Pieces[i].Dead
		if !bytes.Equal(p.Image(), want.Pieces[i].Image) || !slices.Equal(p.Dead().Members(), dead) || p.Live() != p.Docs()-len(dead) || !slices.Equal(p.Schema().Fields, want.Schema.Fields) {
			b.wrong("Parts: the part %d has the dead %v, want %v, or an image that isn't of its documents", i, p.Dead().Members(), dead)
		}
	}
}

// search holds Search, After and Count of a query text, for some k and pages.
func (b *bench) search(m *maker, q string) {
	b.Helper()
	b.note("search %q", q)
	b.model.cut()
	all, wantErr := b.model.corpus().outcome(q)
	b.noteError("search", wantErr)
	b.met.note("none match", wantErr == nil && len(all) == 0 && len(b.model.live()) > 0)
	b.met.note("some match", len(all) > 0 && len(all) < len(b.model.live()))
	b.met.note("all match", len(all) > 1 && len(all) == len(b.model.live()))
	size := 1 + m.roll(4)
	for _, e := range b.engines {
		n, err := e.Count(q)
		if n != len(all) || err != wantErr {
			b.wrong("Count: %d, %v, want %d, %v", n, err, len(all), wantErr)
		}
		k := pickOf(m, math.MinInt, -1, 0, 1, 2, len(all)-1, len(all), len(all)+1, math.MaxInt)
		hits, err := e.Search(q, k)
		if !slices.Equal(hits, firstOf(all, k)) || err != wantErr {
			b.wrong("Search(%d): %v, %v, want %v, %v", k, hits, err, firstOf(all, k), wantErr)
		}
		h := m.hit(all)
		hits, err = e.After(q, h, k)
		if want := firstOf(behind(all, h), k); !slices.Equal(hits, want) || err != wantErr {
			b.wrong("After(%v, %d): %v, %v, want %v, %v", h, k, hits, err, want, wantErr)
		}
		b.pages(e, q, size, all)
	}
}

// pages says that the pages of a size are together all hits.
func (b *bench) pages(e *engine.Engine, q string, size int, all []api.Hit) {
	b.Helper()
	page, _ := e.Search(q, size)
	got := slices.Clone(page)
	for range 1 + len(all)/size {
		if len(page) > 0 {
			page, _ = e.After(q, page[len(page)-1], size)
			got = append(got, page...)
		}
	}
	if len(page) == size && size > 0 && len(all) > 0 {
		b.wrong("the pages of %d don't end: %v", size, got)
	}
	if !slices.Equal(got, all) {
		b.wrong("the pages of %d are together %v, want %v", size, got, all)
	}
}

// hit is one of a list, one beside it, or one of none.
func (m *maker) hit(all []api.Hit) api.Hit {
	if len(all) == 0 || m.roll(4) == 0 {
		return pickOf(m, api.Hit{}, api.Hit{Id: -1, Score: math.MaxUint64}, api.Hit{Id: math.MaxInt}, api.Hit{Id: math.MinInt, Score: api.One}, api.Hit{Id: 3, Score: api.One})
	}
	h := all[m.roll(len(all))]
	h.Id += pickOf(m, 0, 0, 0, 1, -1)
	h.Score += pickOf[uint64](m, 0, 0, 0, 1, math.MaxUint64)
	return h
}

// query holds Query, which doesn't cut.
func (b *bench) query(q string) {
	b.Helper()
	b.note("query %q", q)
	want, wantErr := bound(b.model.schema, q)
	for _, e := range b.engines {
		got, err := e.Query(q)
		if !bind.Same(got, want) || err != wantErr {
			b.wrong("Query: %s, %v, want %s, %v", brief(got), err, brief(want), wantErr)
		}
	}
	b.noteError("query", wantErr)
	b.look()
}

// program holds Program against the layers below, and its runs against the outcome.
func (b *bench) program(q string) {
	b.Helper()
	b.note("program %q", q)
	b.model.cut()
	all, wantErr := b.model.corpus().outcome(q)
	b.noteError("program", wantErr)
	for i, e := range b.engines {
		p, err := e.Program(q)
		if err != wantErr {
			b.wrong("Program: %v, want %v", err, wantErr)
		}
		parts := e.Parts()
		if err == nil {
			b.holdProgram(q, p, parts, b.on[i])
			b.holdRuns(p, parts, all)
		} else if len(p.Avgs)+len(p.Cursors)+len(p.Nears)+len(p.Drive)+len(p.Code) > 0 || p.All {
			b.wrong("Program: %s beside %v", brief(p), err)
		}
	}
	b.look()
}

func (b *bench) holdProgram(q string, p api.Prog, parts []*segment.Part, on bool) {
	b.Helper()
	got, err := isa.Text(p)
	want, wantErr := isa.Text(chain(b, q, b.model.schema, parts, on))
	if got != want || err != nil || wantErr != nil {
		b.wrong("Program with the optimiser %v:\n%swant\n%s", on, got, want)
	}
	// P6
	x, _ := bound(b.model.schema, q)
	if code, _ := isa.Decode(p.Code); len(code) > 8*(bind.Size(x)+b.model.corpus().count(x)+1) {
		b.wrong("Program has %d instructions", len(code))
	}
	b.met.note("a program with the optimiser", on)
	b.met.note("a program without the optimiser", !on)
	b.met.note("leaves drive", on && !p.All && len(p.Drive) > 0)
	b.met.note("all documents drive", on && p.All)
}

// chain is the program of a query text by all layers, one behind the other.
func chain(t testing.TB, q string, s api.Schema, parts []*segment.Part, on bool) api.Prog {
	t.Helper()
	must := func(err error) {
		if err != nil {
			t.Fatalf("%q: %v", q, err)
		}
	}
	x, err := bound(s, q)
	must(err)
	x, err = expand.Expand(s, x, parts)
	must(err)
	if on {
		x, err = rewrite.Normal(x)
		must(err)
	}
	pl, err := plan.Make(x, parts, on)
	must(err)
	p, err := compile.Program(pl, score.Gather(s, parts))
	must(err)
	return p
}

// holdRuns says that a program's runs over the parts tell together all hits.
func (b *bench) holdRuns(p api.Prog, parts []*segment.Part, all []api.Hit) {
	b.Helper()
	var lists [][]api.Hit
	for _, part := range parts {
		run, err := vm.Run(p, part, math.MaxInt)
		if err != nil {
			b.wrong("a run of %s: %v", brief(p), err)
		}
		lists = append(lists, run.Hits)
	}
	if got := topk.Join(lists, math.MaxInt); !slices.Equal(got, all) {
		b.wrong("the runs tell %v, want %v", got, all)
	}
}

// step is one of all calls, as the dice say.
func (b *bench) step(m *maker) {
	b.Helper()
	s := b.model.schema
	segs := len(b.model.segs)
	switch m.roll(32) {
	case 0, 1, 2, 3, 4, 5, 6, 7:
		b.add(m.values(s))
	case 8:
		b.add(m.spoilt(s))
		b.look()
	case 9, 10:
		b.update(m.id(b.model.next), m.values(s))
	case 11:
		b.update(m.id(b.model.next), m.spoilt(s))
		b.look()
	case 12, 13:
		b.delete(m.id(b.model.next))
	case 14:
		b.deleteBy(m.query(s))
	case 15, 16:
		// One of those that were added last, which may wait yet.
		b.delete(max(0, b.model.next-1-m.roll(6)))
	case 17, 18, 19:
		b.cut()
	case 20, 21:
		from := m.roll(segs + 1)
		b.merge(from, 1+m.roll(segs-from+2))
	case 22:
		b.merge(pickOf(m, -1, 0, 0, segs-1, segs, segs+1, math.MaxInt, math.MinInt), pickOf(m, -1, 0, 1, segs, segs+1, math.MaxInt, math.MaxInt-1, math.MinInt))
		b.look()
	case 23:
		b.tidy(pickOf(m, -1, 0, 1, 2, 2, 3, 4, segs, segs+1, math.MaxInt, math.MinInt))
	case 24, 25, 26:
		b.search(m, m.query(s))
	case 27:
		b.query(m.query(s))
	case 28:
		b.program(m.query(s))
	case 29:
		b.optimise(m.roll(len(b.engines)), m.coin())
	case 30:
		b.index()
	case 31:
		b.from(m.roll(len(b.engines)))
	}
}
