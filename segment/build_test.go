package segment_test

import (
	"bytes"
	"encoding/hex"
	"math"
	"math/rand"
	"slices"
	"strings"
	"testing"

	"concord/api"
	"concord/frame"
	"concord/segment"
)

// holdBuild holds the image of documents that make a segment against the chapter's six blocks.
func holdBuild(t *testing.T, s api.Schema, docs []api.Doc) {
	t.Helper()
	if !modelMakes(s, docs) {
		t.Fatalf("%.300v make no segment", docs)
	}
	image := mustBuild(t, s, docs)
	blocks, err := frame.Unpack(83, image)
	want := modelBlocks(t, s, docs)
	if err != nil || len(blocks) != len(want) {
		t.Fatalf("the image of %.300v has %d blocks: %v", docs, len(blocks), err)
	}
	for i, w := range want {
		if blocks[i].Tag != w.Tag || !bytes.Equal(blocks[i].Body, w.Body) {
			t.Fatalf("block %d of %.300v is %d % x, not %d % x", i+1, docs, blocks[i].Tag, blocks[i].Body, w.Tag, w.Body)
		}
	}
	if !bytes.Equal(image, modelImage(t, s, docs)) {
		t.Fatalf("the image of %.300v isn't what Pack makes of its blocks", docs)
	}
}

// P10.1
func TestKey(t *testing.T) {
	for _, row := range []struct {
		field int
		term  string
		key   string
	}{
		{0, "", "\x00"}, {0, "a", "\x00a"}, {1, "x", "\x01x"}, {15, "red", "\x0fred"}, {97, "b", "ab"},
		{127, "", "\x7f"}, {128, "é", "\x80é"}, {195, "\xa9", "é"}, {254, "a", "\xfea"}, {255, "a", "\xffa"}, {255, "", "\xff"},
		{256, "a", "\x00a"}, {257, "a", "\x01a"}, {258, "", "\x02"}, {511, "", "\xff"}, {512, "", "\x00"}, {65536 + 7, "b", "\x07b"},
		{-1, "a", "\xffa"}, {-1, "", "\xff"}, {-2, "", "\xfe"}, {-255, "", "\x01"}, {-256, "", "\x00"}, {-257, "z", "\xffz"},
		{math.MaxInt, "m", "\xffm"}, {math.MinInt, "m", "\x00m"}, {math.MinInt + 3, "m", "\x03m"},
		{3, "\x00\xff", "\x03\x00\xff"}, {3, strings.Repeat("long", 100), "\x03" + strings.Repeat("long", 100)},
	} {
		if key := segment.Key(row.field, row.term); key != row.key {
			t.Errorf("Key(%d, %.20q) is %.20q, not %.20q", row.field, row.term, key, row.key)
		}
	}
	for field := -600; field <= 600; field++ {
		if key := segment.Key(field, "ab"); len(key) != 3 || int(key[0]) != ((field%256)+256)%256 || key[1:] != "ab" {
			t.Errorf("Key(%d, ab) is %q", field, key)
		}
	}
}

// P10.1: the chapter's examples, byte by byte.
func TestBuildExamples(t *testing.T) {
	s := mustParse(t, chapterSchema)
	for _, row := range []struct {
		docs  []api.Doc
		image string
	}{
		{nil, "636e63645306" + "010702017401016b0265535f7a" + "0201003d3cdee5" + "030200009ca47530" + "0401008f4053e1" + "0500bae6ae3c" + "060079b58317" + "d2a70839"},
		{chapterDocs(), "636e63645306" + "010702017401016b0265535f7a" + "020302030384ddf71f" + "030602020b020101634dec05" +
			"0420" + "041e" + "000200610102000b" + "01016202020b0a" + "0101630101150a" + "0002017801011f09" + "168b5d9e" +
			"0528" + "0102000701000101010001" + "02020106020002000100" + "01010106010101010011" + "010100050100010000" + "97a9e9ff" +
			"0612" + "0200056120622061010178" + "02000162000163" + "1a659433" + "30286fff"},
	} {
		if image := hex.EncodeToString(mustBuild(t, s, row.docs)); image != row.image {
			t.Errorf("the image of %v is %s, not %s", row.docs, image, row.image)
		}
		holdBuild(t, s, row.docs)
	}
	if _, err := segment.Build(s, []api.Doc{doc(7), doc(7)}); err != api.ErrOrder {
		t.Errorf("the ids 7 and 7: %v", err)
	}
	if _, err := segment.Build(s, []api.Doc{doc(-1, "z", "")}); err != api.ErrRange {
		t.Errorf("the id -1 and a value of no field: %v", err)
	}
}

// P10.1: single blocks, written out by the chapter.
func TestBuildBlocks(t *testing.T) {
	for _, row := range []struct {
		schema string
		docs   []api.Doc
		blocks [6]string
	}{
		{"n:number", nil, [6]string{"01016e03", "00", "00", "00", "", ""}},
		{"n:number", []api.Doc{doc(0)}, [6]string{"01016e03", "0100", "0100", "00", "", "00"}},
		{"a:text", []api.Doc{doc(2), doc(3), doc(300)}, [6]string{"01016101", "0302" + "00" + "a802", "0300", "00", "", "000000"}},
		{"a:text,stop", []api.Doc{doc(1, "a", "the", "a", "")}, [6]string{"01016109", "0101", "0100", "00", "", "02" + "0003746865" + "0000"}},
		{"a:text;n:number", []api.Doc{doc(1, "n", "-1", "n", "-01")}, [6]string{"02016101016e03", "0101", "0100" + "010202",
			"010f" + "0009" + "017fffffffffffffff" + "0102000b", "0102" + "0007" + "0100" + "010101" + "0010", "02" + "01022d31" + "01032d3031"}},
	} {
		s := mustParse(t, row.schema)
		holdBuild(t, s, row.docs)
		blocks, err := frame.Unpack(83, mustBuild(t, s, row.docs))
		if err != nil || len(blocks) != 6 {
			t.Fatal(len(blocks), err)
		}
		for i, b := range blocks {
			if got := hex.EncodeToString(b.Body); got != row.blocks[i] {
				t.Errorf("block %d over %s of %v is %s, not %s", i+1, row.schema, row.docs, got, row.blocks[i])
			}
		}
	}
}

// P10.1: documents of every kind of field, of none, without values and without tokens.
func TestBuildOfManyKinds(t *testing.T) {
	s := mustParse(t, wholeSchema)
	for _, docs := range named() {
		holdBuild(t, s, docs)
	}
	holdBuild(t, s, inAll(600))
}

// P10.1
func TestBuildOfMadeDocuments(t *testing.T) {
	dice := rand.New(rand.NewSource(101))
	for _, text := range schemas() {
		s := mustParse(t, text)
		for _, n := range sizes() {
			holdBuild(t, s, madeDocs(dice, s, n))
		}
		for range 60 {
			holdBuild(t, s, madeDocs(dice, s, dice.Intn(6)))
		}
	}
}

// P10.1: as many documents as may be make a segment, and one more doesn't.
func TestBuildOfMostDocuments(t *testing.T) {
	s := mustParse(t, "a:text")
	var docs []api.Doc
	for i := range api.MaxDocs {
		docs = append(docs, doc(2*i, "a", "w"))
	}
	g := mustOpen(t, s, docs)
	if c := g.Cursor(0, "w"); g.Docs() != 4096 || c.Docs() != 4096 || c.Total() != 4096 {
		t.Errorf("%d documents, and %d of the word", g.Docs(), c.Docs())
	}
	for _, more := range []api.Doc{doc(9000, "a", "w"), doc(9000), doc(0), doc(-1), doc(9000, "z", "w")} {
		if image, err := segment.Build(s, append(slices.Clone(docs), more)); err != api.ErrLimit || len(image) != 0 {
			t.Errorf("with %v as document number 4096: %v", more, err)
		}
	}
	bad := slices.Clone(docs)
	bad[4095].Id = 3
	if _, err := segment.Build(s, bad); err != api.ErrOrder {
		t.Errorf("with a last document out of order: %v", err)
	}
}

// badDocs are documents that may not stand behind one with the id 50, over wholeSchema, with the error of each.
func badDocs() []struct {
	d   api.Doc
	err error
} {
	var many api.Doc
	for range api.MaxValues + 1 {
		many.Values = append(many.Values, api.Value{Name: "raw", Text: "a"})
	}
	word := strings.Repeat("k", api.MaxTerm+1)
	text := strings.Repeat("a", api.MaxText+1)
	type row = struct {
		d   api.Doc
		err error
	}
	return []row{
		{doc(-1), api.ErrRange}, {doc(math.MinInt), api.ErrRange}, {doc(api.MaxId), api.ErrRange}, {doc(api.MaxId + 1), api.ErrRange}, {doc(math.MaxInt), api.ErrRange},
		{doc(-1, "z", "a"), api.ErrRange}, {doc(api.MaxId, "tag", ""), api.ErrRange},
		{doc(50), api.ErrOrder}, {doc(49), api.ErrOrder}, {doc(0), api.ErrOrder}, {doc(50, "z", "a"), api.ErrOrder}, {doc(3, "price", "x"), api.ErrOrder},
		{doc(51, "z", "a"), api.ErrField}, {doc(51, "", "a"), api.ErrField}, {doc(51, "Title", "a"), api.ErrField}, {doc(51, "raw", "a", "z", text), api.ErrField},
		{doc(51, "raw", text), api.ErrLimit}, {doc(51, "tag", text), api.ErrLimit}, {doc(51, "raw", text, "z", ""), api.ErrLimit},
		{api.Doc{Id: 51, Values: many.Values}, api.ErrLimit}, {api.Doc{Id: 51, Values: append([]api.Value{{Name: "z"}}, many.Values...)}, api.ErrLimit},
		{doc(51, "tag", ""), api.ErrValue}, {doc(51, "tag", word), api.ErrValue}, {doc(51, "price", ""), api.ErrValue}, {doc(51, "price", "x"), api.ErrValue},
		{doc(51, "price", "9223372036854775808"), api.ErrValue}, {doc(51, "raw", "a", "tag", "b", "price", "1.5", "z", ""), api.ErrValue},
	}
}

// P10.1: each of Build's errors, wherever the document stands, and the first of several.
func TestBuildErrors(t *testing.T) {
	s := mustParse(t, wholeSchema)
	hold := func(docs []api.Doc, want error) {
		t.Helper()
		if image, err := segment.Build(s, docs); err != want || (err != nil && len(image) != 0) {
			t.Errorf("Build of %.200v answers %d bytes and %v, not %v", docs, len(image), err, want)
		}
	}
	ahead := []api.Doc{doc(4, "raw", "a"), doc(9), doc(50, "title", "b")}
	hold(ahead, nil)
	for _, bad := range badDocs() {
		hold(append(slices.Clone(ahead), bad.d), bad.err)
		hold(append(slices.Clone(ahead), bad.d, doc(1000)), bad.err)
		hold([]api.Doc{doc(50), bad.d}, bad.err)
		if bad.err != api.ErrOrder {
			hold([]api.Doc{bad.d}, bad.err)
		}
		for _, next := range badDocs() {
			hold(append(slices.Clone(ahead), bad.d, next.d), bad.err)
			hold(append(slices.Clone(ahead), bad.d, doc(60), next.d), bad.err)
		}
	}
	hold([]api.Doc{doc(0)}, nil)
	hold([]api.Doc{doc(api.MaxId - 1)}, nil)
	hold([]api.Doc{doc(api.MaxId - 1), doc(api.MaxId - 1)}, api.ErrOrder)
	hold([]api.Doc{doc(api.MaxId - 1), doc(api.MaxId)}, api.ErrRange)
	hold(make([]api.Doc, 2), api.ErrOrder)
	hold(make([]api.Doc, api.MaxDocs+1), api.ErrLimit)
	hold(make([]api.Doc, api.MaxDocs), api.ErrOrder)
}

// badSchemas are schemas that aren't good.
func badSchemas() []api.Schema {
	field := api.Field{Name: "a", Kind: api.KindText}
	var many []api.Field
	for i := range api.MaxFields + 1 {
		many = append(many, api.Field{Name: string(rune('a' + i)), Kind: api.KindText})
	}
	return []api.Schema{
		{},
		{Fields: []api.Field{}},
		{Fields: many},
		{Fields: []api.Field{field, field}},
		{Fields: []api.Field{{Name: "", Kind: api.KindText}}},
		{Fields: []api.Field{{Name: "A", Kind: api.KindText}}},
		{Fields: []api.Field{{Name: "a"}}},
		{Fields: []api.Field{{Name: "a", Kind: 4}}},
		{Fields: []api.Field{{Name: "a", Kind: api.KindKeyword, Fold: true}}},
		{Fields: []api.Field{{Name: strings.Repeat("a", api.MaxName+1), Kind: api.KindText}}},
	}
}

// P10.1: a schema that isn't good comes ahead of all that documents may have.
func TestBuildSchemaErrors(t *testing.T) {
	for _, s := range badSchemas() {
		for _, docs := range [][]api.Doc{nil, {}, {doc(1)}, {doc(1, "a", "b")}, {doc(-1)}, {doc(2), doc(1)}, {doc(1, "zz", "")}, make([]api.Doc, api.MaxDocs+1)} {
			if image, err := segment.Build(s, docs); err != api.ErrSchema || len(image) != 0 {
				t.Errorf("Build over %v of %d documents answers %d bytes and %v", s, len(docs), len(image), err)
			}
		}
	}
}

// P10.1, rule 5: what is handed in stays as it is, spare room included, and the image is new each time.
func TestBuildSharesNothing(t *testing.T) {
	s := mustParse(t, wholeSchema)
	s.Fields = append(s.Fields, api.Field{Name: "spare", Kind: 9})[:4]
	docs := append(inAll(20), doc(-9, "spare", "room"))[:20]
	docs[3].Values = append(docs[3].Values, api.Value{Name: "spare", Text: "room"})[:3]
	fields, kept := slices.Clone(s.Fields[:5]), slices.Clone(docs[:21])
	for i := range kept {
		kept[i].Values = slices.Clone(kept[i].Values[:cap(kept[i].Values)])
	}
	first := mustBuild(t, s, docs)
	if !slices.Equal(s.Fields[:5], fields) {
		t.Error("Build changed the schema")
	}
	for i, d := range docs[:21] {
		if d.Id != kept[i].Id || !slices.Equal(d.Values[:cap(d.Values)], kept[i].Values) {
			t.Errorf("Build changed document %d", i)
		}
	}
	second := mustBuild(t, s, docs)
	copied := bytes.Clone(first)
	wipe(second)
	wipeDocs(docs)
	wipeFields(s)
	if !bytes.Equal(first, copied) {
		t.Error("an image changes with another one, or with the documents")
	}
}
