package segment_test

import (
	"slices"
	"testing"

	"concord/api"
	"concord/codec"
	"concord/dict"
	"concord/frame"
	"concord/posts"
	"concord/schema"
	"concord/segment"
	"concord/tokens"
)

// modelRows are the terms of documents with their postings: field by field and text by text, all documents are asked anew.
func modelRows(s api.Schema, docs []api.Doc) []api.Row {
	var rows []api.Row
	for field := range s.Fields {
		var texts []string
		for _, d := range docs {
			for _, t := range tokens.Field(s, field, d.Values) {
				texts = append(texts, t.Text)
			}
		}
		slices.Sort(texts)
		for _, text := range slices.Compact(texts) {
			rows = append(rows, api.Row{Field: field, Term: text, Posts: modelPosts(s, docs, field, text)})
		}
	}
	return rows
}

// modelPosts are the postings of one text in one field.
func modelPosts(s api.Schema, docs []api.Doc, field int, text string) []api.Posting {
	var list []api.Posting
	for local, d := range docs {
		var pos []int
		for _, t := range tokens.Field(s, field, d.Values) {
			if t.Text == text {
				pos = append(pos, t.Pos)
			}
		}
		if len(pos) > 0 {
			list = append(list, api.Posting{Doc: local, Pos: pos})
		}
	}
	return list
}

// modelBlocks are the bodies of the chapter's six blocks.
func modelBlocks(t testing.TB, s api.Schema, docs []api.Doc) []api.Block {
	t.Helper()
	must := func(b []byte, err error) []byte {
		if err != nil {
			t.Fatal(err)
		}
		return b
	}
	ids, lengths, all, stored := codec.NewWriter(), codec.NewWriter(), codec.NewWriter(), codec.NewWriter()
	var list []int
	for _, d := range docs {
		list = append(list, d.Id)
		stored.Uvarint(uint64(len(d.Values)))
		for _, v := range d.Values {
			stored.Uvarint(uint64(slices.IndexFunc(s.Fields, func(f api.Field) bool { return f.Name == v.Name })))
			stored.Text(v.Text)
		}
	}
	must(nil, ids.Rising(list))
	for field := range s.Fields {
		var list []int
		for _, d := range docs {
			list = append(list, len(tokens.Field(s, field, d.Values)))
		}
		must(nil, lengths.Packed(list))
	}
	var entries []api.Entry
	for _, r := range modelRows(s, docs) {
		b := must(posts.Encode(r.Posts))
		e := api.Entry{Key: string([]byte{byte(r.Field)}) + r.Term, Docs: len(r.Posts), At: all.Len(), Size: len(b)}
		for _, p := range r.Posts {
			e.Total += len(p.Pos)
		}
		entries = append(entries, e)
		all.Raw(b)
	}
	return []api.Block{
		{Tag: 1, Body: must(schema.Encode(s))},
		{Tag: 2, Body: ids.Bytes()},
		{Tag: 3, Body: lengths.Bytes()},
		{Tag: 4, Body: must(dict.Build(entries))},
		{Tag: 5, Body: all.Bytes()},
		{Tag: 6, Body: stored.Bytes()},
	}
}

// modelImage is the image of documents that make a segment.
func modelImage(t testing.TB, s api.Schema, docs []api.Doc) []byte {
	t.Helper()
	image, err := frame.Pack('S', modelBlocks(t, s, docs))
	if err != nil {
		t.Fatal(err)
	}
	return image
}

// modelMakes tells whether documents over a good schema make a segment.
func modelMakes(s api.Schema, docs []api.Doc) bool {
	ids := []int{-1}
	for _, d := range docs {
		ids = append(ids, d.Id)
		if schema.Good(s, d.Values) != nil {
			return false
		}
	}
	return len(docs) <= 4096 && slices.Max(ids) < 1<<40 && slices.IsSorted(ids) && len(slices.Compact(ids)) == len(docs)+1
}

// modelDocs are the documents of which blocks 2 and 6 of an image tell; false, if they tell of none.
func modelDocs(s api.Schema, image []byte) ([]api.Doc, bool) {
	blocks, err := frame.Unpack('S', image)
	if err != nil || len(blocks) != 6 {
		return nil, false
	}
	ids, stored := codec.NewReader(blocks[1].Body), codec.NewReader(blocks[5].Body)
	list, err := ids.Rising(len(blocks[1].Body))
	if err != nil || ids.Done() != nil {
		return nil, false
	}
	docs := []api.Doc{}
	for _, id := range list {
		d := api.Doc{Id: id}
		n, err := stored.Upto(len(blocks[5].Body))
		if err != nil {
			return nil, false
		}
		for range n {
			field, err := stored.Upto(1 << 20)
			text, fault := stored.Text(1 << 20)
			if err != nil || fault != nil || field >= len(s.Fields) {
				return nil, false
			}
			d.Values = append(d.Values, api.Value{Name: s.Fields[field].Name, Text: text})
		}
		docs = append(docs, d)
	}
	return docs, stored.Done() == nil && modelMakes(s, docs)
}

// sameDocs tells whether documents have the same ids and values.
func sameDocs(a, b []api.Doc) bool {
	return slices.EqualFunc(a, b, func(x, y api.Doc) bool {
		return x.Id == y.Id && slices.Equal(x.Values, y.Values)
	})
}

// samePosts tells whether postings have the same documents and positions.
func samePosts(a, b []api.Posting) bool {
	return slices.EqualFunc(a, b, func(x, y api.Posting) bool {
		return x.Doc == y.Doc && slices.Equal(x.Pos, y.Pos)
	})
}

// sameRows tells whether rows have the same fields, terms and postings.
func sameRows(a, b []api.Row) bool {
	return slices.EqualFunc(a, b, func(x, y api.Row) bool {
		return x.Field == y.Field && x.Term == y.Term && samePosts(x.Posts, y.Posts)
	})
}

// storedOf are the documents of a segment, as Stored answers them.
func storedOf(t testing.TB, g *segment.Segment) []api.Doc {
	t.Helper()
	var docs []api.Doc
	for local := range g.Docs() {
		d, ok := g.Stored(local)
		if !ok {
			t.Fatalf("Stored(%d) of %d documents has none", local, g.Docs())
		}
		docs = append(docs, d)
	}
	return docs
}
