package segment_test

import (
	"fmt"
	"math/rand"
	"strconv"
	"strings"
	"testing"

	"concord/api"
	"concord/schema"
	"concord/segment"
)

// mustParse is the schema of a text.
func mustParse(t testing.TB, text string) api.Schema {
	t.Helper()
	s, err := schema.Parse(text)
	if err != nil {
		t.Fatalf("Parse(%q) answers %v", text, err)
	}
	return s
}

// mustBuild is the image of documents that make a segment.
func mustBuild(t testing.TB, s api.Schema, docs []api.Doc) []byte {
	t.Helper()
	image, err := segment.Build(s, docs)
	if err != nil {
		t.Fatalf("Build of %.300v answers %v", docs, err)
	}
	return image
}

// mustOpen is the segment of documents.
func mustOpen(t testing.TB, s api.Schema, docs []api.Doc) *segment.Segment {
	t.Helper()
	g, err := segment.Open(s, mustBuild(t, s, docs))
	if err != nil || g == nil {
		t.Fatalf("Open of the image of %.300v answers %v and %v", docs, g, err)
	}
	return g
}

// doc is a document; its values are told as names and texts in turn.
func doc(id int, pairs ...string) api.Doc {
	d := api.Doc{Id: id}
	for i := 0; i < len(pairs); i += 2 {
		d.Values = append(d.Values, api.Value{Name: pairs[i], Text: pairs[i+1]})
	}
	return d
}

// chapterSchema is the schema of the chapter's examples.
const chapterSchema = "t:text;k:keyword"

// chapterDocs are the documents of the chapter's examples.
func chapterDocs() []api.Doc {
	return []api.Doc{doc(3, "t", "a b a", "k", "x"), doc(7, "t", "b", "t", "c")}
}

// wholeSchema has every kind of field, and a text field with and without a chain.
const wholeSchema = "title:text,fold,stop,stem;tag:keyword;price:number;raw:text"

// longSchema has as many fields as may be, with names as long as may be.
func longSchema() string {
	var fields []string
	for i := range api.MaxFields {
		name := string(rune('a'+i)) + strings.Repeat("_", api.MaxName-1)
		fields = append(fields, name+":"+[]string{"text", "keyword", "number", "text,fold,stem"}[i%4])
	}
	return strings.Join(fields, ";")
}

// schemas are good schemas.
func schemas() []string {
	return []string{chapterSchema, wholeSchema, longSchema(), "a:text", "k:keyword", "n:number", "n:number;a:text,stop;m:number", "a:text,fold;b:text,stem;c:text,fold"}
}

// oneOf is one of the texts.
func oneOf(dice *rand.Rand, texts ...string) string {
	return texts[dice.Intn(len(texts))]
}

// madeText is a text that a field of this kind takes.
func madeText(dice *rand.Rand, kind int) string {
	switch kind {
	case api.KindKeyword:
		return oneOf(dice, "a", "b", "a b", "\x00", "\xff\xff", "Red", "the", strings.Repeat("k", api.MaxTerm), strconv.Itoa(dice.Intn(9)))
	case api.KindNumber:
		return oneOf(dice, "0", "-0", "007", "7", "-1", "9223372036854775807", "-9223372036854775808", strconv.Itoa(dice.Intn(40)-20))
	}
	var b strings.Builder
	for range dice.Intn(1 << dice.Intn(5)) {
		b.WriteString(oneOf(dice, "a", "b", "c", "red", "Red", "reds", "the", "THE", "of", "running", "it's", "3.14", "àÀ", "\xff", "x1", strings.Repeat("w", api.MaxTerm), strings.Repeat("w", api.MaxTerm+1), "", "..."))
		b.WriteString(oneOf(dice, " ", " ", ", ", "\n", "'"))
	}
	return b.String()
}

// madeDoc is a document of a few values.
func madeDoc(dice *rand.Rand, s api.Schema, id int) api.Doc {
	d := api.Doc{Id: id}
	for range dice.Intn(1 << dice.Intn(4)) {
		f := s.Fields[dice.Intn(len(s.Fields))]
		d.Values = append(d.Values, api.Value{Name: f.Name, Text: madeText(dice, f.Kind)})
	}
	return d
}

// madeDocs are n documents that make a segment.
func madeDocs(dice *rand.Rand, s api.Schema, n int) []api.Doc {
	var docs []api.Doc
	id := -1
	for range n {
		id += 1 + dice.Intn(1<<dice.Intn(30))
		docs = append(docs, madeDoc(dice, s, id))
	}
	return docs
}

// sizes are numbers of documents around the ends of blocks.
func sizes() []int {
	return []int{0, 1, 2, 15, 16, 17, 32, 33}
}

// inAll has n documents, each with the word "all", its number as a word, and every third one "third".
func inAll(n int) []api.Doc {
	var docs []api.Doc
	for i := range n {
		text := "all " + strconv.Itoa(i) + " all"
		if i%3 == 0 {
			text += " third"
		}
		docs = append(docs, doc(10*i+5, "title", text, "tag", "g"+strconv.Itoa(i%2), "price", strconv.Itoa(i-7)))
	}
	return docs
}

// named are documents over wholeSchema, by what they are.
func named() map[string][]api.Doc {
	var manyValues api.Doc
	for i := range api.MaxValues {
		manyValues.Values = append(manyValues.Values, api.Value{Name: "title", Text: "v" + strconv.Itoa(i%5) + " w"})
	}
	word := strings.Repeat("x", api.MaxTerm)
	lists := map[string][]api.Doc{
		"none":                  nil,
		"one without values":    {doc(0)},
		"three without values":  {doc(0), doc(1), doc(2)},
		"no tokens":             {doc(4, "title", "", "raw", " ., '' ", "title", "The of AND"), doc(5, "raw", "")},
		"no tokens in between":  {doc(1, "raw", "a"), doc(2, "raw", ""), doc(3), doc(9, "raw", "a")},
		"first and greatest id": {doc(0, "raw", "a"), doc(api.MaxId-1, "raw", "b")},
		"greatest id alone":     {doc(api.MaxId - 1)},
		"words at the limit":    {doc(1, "raw", word+" "+word+"x b "+word)},
		"stems at the limit":    {doc(1, "title", word+"s "+word+"xs "+word+"'s b")},
		"keyword at the limit":  {doc(1, "tag", word, "tag", "a", "tag", word)},
		"text at the limit":     {doc(1, "raw", strings.Repeat("a b ", api.MaxText/4))},
		"values at the limit":   {manyValues},
		"numbers":               {doc(1, "price", "0", "price", "-0", "price", "-9223372036854775808", "price", "9223372036854775807", "price", "000"), doc(2, "price", "-1", "price", "1")},
		"one text in all":       {doc(1, "title", "red", "tag", "red", "raw", "red"), doc(2, "raw", "Red reds", "title", "Red reds", "tag", "Red")},
		"bytes of all kinds":    {doc(1, "raw", "\x00\x01é\xff\x80 \xc3", "tag", "\x00", "tag", "\xff\x00"), doc(2, "tag", "\x00\x00")},
		"terms in one another":  {doc(1, "raw", "aa a aaa ab", "tag", "a", "tag", "aa"), doc(2, "raw", "aaa b ab", "tag", "a\x00")},
	}
	for _, n := range sizes() {
		lists[fmt.Sprintf("%d in all", n)] = inAll(n)
	}
	return lists
}

// wipe writes over all bytes, spare room included.
func wipe(b []byte) {
	b = b[:cap(b)]
	for i := range b {
		b[i] ^= 0x55
	}
}

// wipeDocs writes over documents and their values, spare room included.
func wipeDocs(docs []api.Doc) {
	docs = docs[:cap(docs)]
	for i := range docs {
		wipeValues(docs[i].Values)
		docs[i].Id = -77
	}
}

// wipeValues writes over values, spare room included.
func wipeValues(values []api.Value) {
	values = values[:cap(values)]
	for i := range values {
		values[i] = api.Value{Name: "wiped", Text: "wiped"}
	}
}

// wipeRows writes over rows and their postings, spare room included.
func wipeRows(rows []api.Row) {
	rows = rows[:cap(rows)]
	for _, r := range rows {
		list := r.Posts[:cap(r.Posts)]
		for i := range list {
			pos := list[i].Pos[:cap(list[i].Pos)]
			for k := range pos {
				pos[k] = -1
			}
			list[i].Doc = -1
		}
	}
	for i := range rows {
		rows[i] = api.Row{Field: -1}
	}
}

// wipeFields writes over a schema's fields, spare room included.
func wipeFields(s api.Schema) {
	fields := s.Fields[:cap(s.Fields)]
	for i := range fields {
		fields[i] = api.Field{Name: "wiped", Kind: api.KindNumber}
	}
}
