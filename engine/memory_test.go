package engine_test

import (
	"bytes"
	"fmt"
	"runtime"
	"slices"
	"strings"
	"testing"
	"unsafe"

	"concord/api"
	"concord/engine"
)

// room is a piece of memory: from its first byte up to the one behind its last.
type room struct{ from, to uintptr }

// textRoom is the memory of a text. Texts of one byte may be those that the language keeps, which nobody writes.
func textRoom(s string) []room {
	if len(s) < 2 {
		return nil
	}
	from := uintptr(unsafe.Pointer(unsafe.StringData(s)))
	return []room{{from, from + uintptr(len(s))}}
}

// listRoom is the memory of a list, spare room included.
func listRoom[E any](list []E) []room {
	if cap(list) == 0 {
		return nil
	}
	from := uintptr(unsafe.Pointer(unsafe.SliceData(list)))
	return []room{{from, from + uintptr(cap(list))*unsafe.Sizeof(*new(E))}}
}

func schemaRooms(s api.Schema) []room {
	out := listRoom(s.Fields)
	for _, f := range s.Fields {
		out = append(out, textRoom(f.Name)...)
	}
	return out
}

func valueRooms(values []api.Value) []room {
	out := listRoom(values)
	for _, v := range values {
		out = slices.Concat(out, textRoom(v.Name), textRoom(v.Text))
	}
	return out
}

func indexRooms(x api.Index) []room {
	out := slices.Concat(schemaRooms(x.Schema), listRoom(x.Pieces))
	for _, p := range x.Pieces {
		out = slices.Concat(out, listRoom(p.Image), listRoom(p.Dead))
	}
	return out
}

func queryRooms(q api.Query) []room {
	out := slices.Concat(textRoom(q.Text), textRoom(q.Lo.Text), textRoom(q.Hi.Text), listRoom(q.Terms), listRoom(q.Offs), listRoom(q.Occur), listRoom(q.Kids))
	for _, text := range q.Terms {
		out = append(out, textRoom(text)...)
	}
	for _, kid := range q.Kids {
		out = append(out, queryRooms(kid)...)
	}
	return out
}

func programRooms(p api.Prog) []room {
	out := slices.Concat(listRoom(p.Avgs), listRoom(p.Cursors), listRoom(p.Nears), listRoom(p.Drive), listRoom(p.Code))
	for _, c := range p.Cursors {
		out = append(out, textRoom(c.Term)...)
	}
	for _, n := range p.Nears {
		out = slices.Concat(out, listRoom(n.Cursors), listRoom(n.Offs))
	}
	return out
}

// wantApart says that no two pieces of memory share any.
func wantApart(t *testing.T, what string, rooms []room) {
	t.Helper()
	rooms = slices.Clone(rooms)
	slices.SortFunc(rooms, func(a, b room) int { return int(a.from) - int(b.from) })
	for i := 1; i < len(rooms); i++ {
		if rooms[i].from < rooms[i-1].to {
			t.Fatalf("%s: two pieces of what is handed out share memory", what)
		}
	}
}

// lender hands out texts and lists in memory of its own, with spare room, and keeps hold of it.
type lender struct {
	texts [][]byte
}

func (l *lender) text(s string) string {
	if s == "" {
		return ""
	}
	own := []byte(s)
	l.texts = append(l.texts, own)
	return unsafe.String(&own[0], len(own))
}

// spared is a list with spare room, in which the last one stands twice.
func spared[E any](list []E, last E) []E {
	return append(append(make([]E, 0, len(list)+2), list...), last, last)[:len(list)]
}

func (l *lender) schema(s api.Schema) api.Schema {
	s.Fields = spared(s.Fields, api.Field{Name: "spare"})
	for i, f := range s.Fields {
		s.Fields[i].Name = l.text(f.Name)
	}
	return s
}

func (l *lender) values(values []api.Value) []api.Value {
	values = spared(values, api.Value{Name: "spare"})
	for i, v := range values {
		values[i] = api.Value{Name: l.text(v.Name), Text: l.text(v.Text)}
	}
	return values
}

func (l *lender) index(x api.Index) api.Index {
	x.Schema = l.schema(x.Schema)
	x.Pieces = spared(x.Pieces, api.Piece{Image: []byte("spare")})
	for i, p := range x.Pieces {
		x.Pieces[i] = api.Piece{Image: spared(p.Image, 55), Dead: spared(p.Dead, 555)}
	}
	return x
}

// overwrite writes into all texts that were handed out.
func (l *lender) overwrite() {
	for _, text := range l.texts {
		for i := range text {
			text[i] = '#'
		}
	}
}

// fill writes into all of a list, spare room included.
func fill[E any](list []E, x E) {
	list = list[:cap(list)]
	for i := range list {
		list[i] = x
	}
}

func spoilIndex(x api.Index) {
	fill(x.Schema.Fields, api.Field{Name: "spoilt"})
	for _, p := range x.Pieces {
		fill(p.Image, 77)
		fill(p.Dead, 777)
	}
	fill(x.Pieces, api.Piece{})
}

func spoilQuery(q api.Query) {
	for _, kid := range q.Kids {
		spoilQuery(kid)
	}
	fill(q.Kids, api.Query{Kind: 333})
	fill(q.Terms, "spoilt")
	fill(q.Offs, 444)
	fill(q.Occur, 444)
}

func spoilProgram(p api.Prog) {
	for _, n := range p.Nears {
		fill(n.Cursors, 444)
		fill(n.Offs, 444)
	}
	fill(p.Avgs, 444)
	fill(p.Cursors, api.Leaf{Field: 4, Term: "spoilt"})
	fill(p.Nears, api.Near{})
	fill(p.Drive, 444)
	fill(p.Code, 44)
}

// whole is a list with its spare room, told as a text.
func whole[E any](list []E) string { return fmt.Sprint(list[:cap(list)]) }

// Rule 5: schemas, values and query texts that are handed in stay, and aren't kept.
func TestArgumentsStay(t *testing.T) {
	m := newMaker(260)
	for range 40 {
		var l lender
		s := m.schema(t)
		given := l.schema(s)
		before := whole(given.Fields)
		e, err := engine.New(given)
		if err != nil || whole(given.Fields) != before {
			t.Fatalf("New: %v, and the schema is %s", err, brief(given))
		}
		fill(given.Fields, api.Field{})
		l.overwrite()
		b := newBench(t, s)
		b.engines[0] = e
		for range 30 {
			values := m.values(s)
			own := l.values(values)
			before := whole(own)
			if m.roll(3) == 0 {
				id := m.id(b.model.next)
				want, wantErr := b.model.update(id, values)
				if got, err := e.Update(id, own); got != want || err != wantErr {
					t.Fatalf("Update: %d, %v, want %d, %v", got, err, want, wantErr)
				}
			} else {
				want, _ := b.model.add(values)
				if got, err := e.Add(own); got != want || err != nil {
					t.Fatalf("Add: %d, %v, want %d", got, err, want)
				}
			}
			if whole(own) != before {
				t.Fatalf("values have become %s", brief(own))
			}
			fill(own, api.Value{})
			l.overwrite()
			if m.roll(8) == 0 {
				b.cut()
			}
		}
		b.look()
		for range 5 {
			q := m.query(s)
			own := l.text(q)
			got, gotErr := e.Query(own)
			e.Search(own, 3)
			e.Program(own)
			if own != q {
				t.Fatalf("a query text has become %q", own)
			}
			want, wantErr := bound(s, q)
			l.overwrite()
			if brief(got) != brief(want) || gotErr != wantErr {
				t.Fatalf("Query, its text overwritten: %s, want %s", brief(got), brief(want))
			}
			b.search(m, q)
		}
		b.index()
	}
}

// Rule 5: an index that is handed in stays, and isn't kept; a refused one stays too.
func TestIndexStays(t *testing.T) {
	m := newMaker(261)
	refused := 0
	for range 60 {
		b := newBench(t, m.schema(t))
		for range 30 {
			b.step(m)
		}
		b.cut()
		var l lender
		x := l.index(b.engines[0].Index())
		if m.coin() && len(x.Pieces) > 0 {
			at := m.roll(len(x.Pieces))
			x.Pieces[at].Dead = spared(slices.Concat(x.Pieces[at].Dead, []int{0}), 555)
		}
		tell := func() string {
			out := whole(x.Schema.Fields) + whole(x.Pieces)
			for _, p := range x.Pieces {
				out += whole(p.Image) + whole(p.Dead)
			}
			return out
		}
		before := tell()
		e, err := engine.From(x)
		if tell() != before {
			t.Fatal("an index has become another")
		}
		spoilIndex(x)
		l.overwrite()
		if err != nil {
			refused++
			continue
		}
		if len(b.model.live()) < e.Live() {
			t.Fatal("more documents are live")
		}
		b = benchOver(t, b.model)
		if e.Live() == b.engines[0].Live() {
			b.engines[0] = e
		}
		b.index()
		for range 20 {
			b.step(m)
		}
	}
	if refused < 5 {
		t.Errorf("only %d were refused", refused)
	}
}

// drawn is an engine with documents, some dead and some that wait, and the model of it.
func drawn(t *testing.T, m *maker) *bench {
	b := newBench(t, m.schema(t))
	for range 60 {
		b.step(m)
	}
	for range 3 {
		b.add(m.values(b.model.schema))
	}
	return b
}

// Rule 5: what is answered is new memory: no two pieces of one answer share any, nor do two answers.
func TestAnswersShareNothing(t *testing.T) {
	m := newMaker(262)
	for range 40 {
		b := drawn(t, m)
		e := b.engines[0]
		var rooms []room
		// All answers are kept up to the end: memory that nobody has any more may be used again.
		var kept []any
		take := func(answer any, list []room) {
			kept = append(kept, answer)
			rooms = append(rooms, list...)
		}
		takeDocs := func() {
			for _, d := range b.model.live() {
				got, _ := e.Get(d.Id)
				take(got, valueRooms(got.Values))
			}
			s, segments := e.Schema(), e.Segments()
			take(s, schemaRooms(s))
			take(segments, listRoom(segments))
		}
		takeDocs()
		takeDocs()
		for range 2 {
			x, parts := e.Index(), e.Parts()
			take(x, indexRooms(x))
			take(parts, listRoom(parts))
			for _, p := range parts {
				image, docs := p.Image(), p.LiveDocs()
				take(image, listRoom(image))
				take(docs, listRoom(docs))
				for _, d := range docs {
					take(d, valueRooms(d.Values))
				}
			}
			takeDocs()
		}
		for range 5 {
			q := strings.Clone(m.query(b.model.schema))
			take(q, textRoom(q))
			for range 2 {
				hits, _ := e.Search(q, 5)
				take(hits, listRoom(hits))
				hits, _ = e.After(q, api.Hit{Score: api.Top}, 5)
				take(hits, listRoom(hits))
				x, _ := e.Query(q)
				take(x, queryRooms(x))
				p, _ := e.Program(q)
				take(p, programRooms(p))
			}
		}
		wantApart(t, "an engine", rooms)
		runtime.KeepAlive(kept)
	}
}

// Rule 5: what is answered may be written over and grown: no later answer is another.
func TestAnswersSpoilt(t *testing.T) {
	m := newMaker(263)
	for range 40 {
		b := drawn(t, m)
		e := b.engines[0]
		spoil := func() {
			for _, d := range b.model.live() {
				got, _ := e.Get(d.Id)
				fill(got.Values, api.Value{Name: "spoilt"})
			}
			fill(e.Schema().Fields, api.Field{Name: "spoilt"})
			fill(e.Segments(), api.SegInfo{Docs: 7})
			q := m.query(b.model.schema)
			x, _ := e.Query(q)
			spoilQuery(x)
		}
		spoil()
		b.look()
		b.cut()
		spoil()
		spoilIndex(e.Index())
		for _, p := range e.Parts() {
			p.Dead().Add(0)
			fill(p.Image(), 7)
			fill(p.Schema().Fields, api.Field{})
			for _, d := range p.LiveDocs() {
				fill(d.Values, api.Value{})
			}
			p.Segment = nil
		}
		fill(e.Parts(), nil)
		for range 3 {
			q := m.query(b.model.schema)
			hits, _ := e.Search(q, 5)
			fill(hits, api.Hit{Id: -7})
			hits, _ = e.After(q, api.Hit{Score: api.Top}, 5)
			fill(hits, api.Hit{Id: -7})
			p, _ := e.Program(q)
			spoilProgram(p)
			b.search(m, q)
			b.program(q)
		}
		b.index()
		for range 10 {
			b.step(m)
		}
	}
}

// Rule 5: of two engines of one index neither sees what is done to the other.
func TestEnginesOfOneIndex(t *testing.T) {
	m := newMaker(264)
	for range 20 {
		b := drawn(t, m)
		b.cut()
		x := b.engines[0].Index()
		kept := make([][]byte, len(x.Pieces))
		for i, p := range x.Pieces {
			kept[i] = bytes.Clone(p.Image)
		}
		other := mustFrom(t, x)
		if _, err := other.DeleteBy("*:*"); err != nil {
			t.Fatal(err)
		}
		other.Tidy(2)
		for i, p := range x.Pieces {
			if !bytes.Equal(p.Image, kept[i]) {
				t.Fatal("an image has become another")
			}
		}
		b.holdIndex(x, b.model.index(t))
		b.index()
	}
}
