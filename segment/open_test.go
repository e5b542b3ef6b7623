package segment_test

import (
	"bytes"
	"math/rand"
	"slices"
	"strings"
	"testing"

	"concord/api"
	"concord/codec"
	"concord/dict"
	"concord/frame"
	"concord/posts"
	"concord/schema"
	"concord/segment"
)

// holdOpen holds Open over any bytes against the model, and tells whether it takes them.
func holdOpen(t testing.TB, s api.Schema, image []byte) bool {
	t.Helper()
	g, err := segment.Open(s, image)
	docs, ok := modelDocs(s, image)
	ok = ok && bytes.Equal(modelImage(t, s, docs), image)
	if !ok {
		if err != api.ErrCorrupt || g != nil {
			t.Fatalf("Open of % x answers %v and %v", image, g, err)
		}
		return false
	}
	if err != nil || g == nil {
		t.Fatalf("Open of % x answers %v, though %v make it", image, err, docs)
	}
	stored := storedOf(t, g)
	if !sameDocs(stored, docs) {
		t.Fatalf("the documents are %v, not %v", stored, docs)
	}
	if built, err := segment.Build(s, stored); err != nil || !bytes.Equal(built, image) || !bytes.Equal(g.Image(), image) {
		t.Fatalf("Build makes % x and %v of the documents, not % x", built, err, image)
	}
	return true
}

// repacked is the image with one of its blocks' bodies put in the place of what it was. The frame is right.
func repacked(t testing.TB, image []byte, tag int, body []byte) []byte {
	t.Helper()
	blocks, err := frame.Unpack('S', image)
	if err != nil {
		t.Fatal(err)
	}
	blocks[tag-1].Body = body
	return packed(t, blocks)
}

// packed is an image of blocks.
func packed(t testing.TB, blocks []api.Block) []byte {
	t.Helper()
	image, err := frame.Pack('S', blocks)
	if err != nil {
		t.Fatal(err)
	}
	return image
}

// bodyOf is the body of one block of an image.
func bodyOf(t testing.TB, image []byte, tag int) []byte {
	t.Helper()
	blocks, err := frame.Unpack('S', image)
	if err != nil {
		t.Fatal(err)
	}
	return blocks[tag-1].Body
}

// P10.3: a byte changed, cut off or put behind.
func TestOpenOfBrokenBytes(t *testing.T) {
	for _, row := range []struct {
		schema string
		docs   []api.Doc
	}{{chapterSchema, nil}, {chapterSchema, chapterDocs()}, {wholeSchema, inAll(17)}} {
		s := mustParse(t, row.schema)
		image := mustBuild(t, s, row.docs)
		refuse := func(b []byte, why string, at int) {
			t.Helper()
			if g, err := segment.Open(s, b); g != nil || err != api.ErrCorrupt {
				t.Fatalf("%s at %d: Open answers %v and %v", why, at, g, err)
			}
		}
		for i := range image {
			for _, bit := range []byte{1, 4, 128, 255} {
				b := bytes.Clone(image)
				b[i] ^= bit
				refuse(b, "changed", i)
			}
			refuse(image[:i], "cut", i)
			refuse(image[i+1:], "cut in front", i)
			refuse(slices.Delete(bytes.Clone(image), i, i+1), "a byte left out", i)
			refuse(slices.Insert(bytes.Clone(image), i, 0), "a byte put in", i)
		}
		for _, tail := range []string{"\x00", "c", "\xff\xff", string(image)} {
			refuse(append(bytes.Clone(image), tail...), "lengthened", len(tail))
		}
	}
}

// P10.3: a right frame of other blocks, kinds and orders.
func TestOpenOfOtherBlocks(t *testing.T) {
	s := mustParse(t, chapterSchema)
	for _, docs := range [][]api.Doc{nil, chapterDocs()} {
		image := mustBuild(t, s, docs)
		blocks, err := frame.Unpack('S', image)
		if err != nil {
			t.Fatal(err)
		}
		refuse := func(list []api.Block, why string) {
			t.Helper()
			if holdOpen(t, s, packed(t, list)) {
				t.Errorf("%s: taken", why)
			}
		}
		refuse(nil, "no block")
		refuse(append(slices.Clone(blocks), api.Block{Tag: 7}), "a seventh block")
		refuse(append(slices.Clone(blocks), blocks[5]), "the last block twice")
		for i := range blocks {
			refuse(blocks[:i], "too few blocks")
			refuse(slices.Delete(slices.Clone(blocks), i, i+1), "a block left out")
			other := slices.Clone(blocks)
			other[i].Tag += 10
			refuse(other, "another tag")
			for j := range i {
				swapped := slices.Clone(blocks)
				swapped[i], swapped[j] = swapped[j], swapped[i]
				refuse(swapped, "blocks in another order")
			}
		}
		if !holdOpen(t, s, packed(t, blocks)) {
			t.Error("the image's own blocks are refused")
		}
		for _, kind := range []byte{1, 's', 'S' + 1, 255} {
			b, err := frame.Pack(kind, blocks)
			if err != nil || holdOpen(t, s, b) {
				t.Errorf("the kind %d is taken", kind)
			}
		}
	}
}

// rising is a rising list's bytes.
func rising(t testing.TB, list ...int) []byte {
	t.Helper()
	w := codec.NewWriter()
	if err := w.Rising(list); err != nil {
		t.Fatal(err)
	}
	return w.Bytes()
}

// packedLists is the bytes of packed lists, one behind the other.
func packedLists(t testing.TB, lists ...[]int) []byte {
	t.Helper()
	w := codec.NewWriter()
	for _, list := range lists {
		if err := w.Packed(list); err != nil {
			t.Fatal(err)
		}
	}
	return w.Bytes()
}

// P10.3: other ids alone make an image of other documents, if they may be ids.
func TestOpenOfOtherIds(t *testing.T) {
	s := mustParse(t, chapterSchema)
	image := mustBuild(t, s, chapterDocs())
	for _, row := range []struct {
		body  []byte
		taken bool
	}{
		{rising(t, 3, 7), true}, {rising(t, 3, 8), true}, {rising(t, 0, 1), true}, {rising(t, 0, api.MaxId-1), true}, {rising(t, api.MaxId-2, api.MaxId-1), true},
		{rising(t, 3, api.MaxId), false}, {rising(t, api.MaxId, api.MaxId+1), false}, {rising(t, 0, 1<<63-1), false},
		{rising(t), false}, {rising(t, 3), false}, {rising(t, 3, 7, 9), false}, {append(rising(t, 3, 7), 0), false}, {nil, false},
		{[]byte{2, 3, 0x80 | 3, 0}, false}, {[]byte{2, 3}, false},
	} {
		b := repacked(t, image, 2, row.body)
		if taken := holdOpen(t, s, b); taken != row.taken {
			t.Errorf("with the ids % x: taken %v", row.body, taken)
		}
	}
	g, err := segment.Open(s, repacked(t, image, 2, rising(t, 3, 8)))
	if err != nil {
		t.Fatal(err)
	}
	if local, ok := g.Local(8); local != 1 || !ok {
		t.Errorf("Local(8) is %d and %v", local, ok)
	}
}

// P10.3: other lengths alone are never what Build makes.
func TestOpenOfOtherLengths(t *testing.T) {
	s := mustParse(t, chapterSchema)
	image := mustBuild(t, s, chapterDocs())
	right := packedLists(t, []int{3, 2}, []int{1, 0})
	if !holdOpen(t, s, repacked(t, image, 3, right)) {
		t.Error("the right lengths are refused")
	}
	for _, body := range [][]byte{
		packedLists(t, []int{2, 2}, []int{1, 0}), packedLists(t, []int{3, 3}, []int{1, 0}), packedLists(t, []int{3, 2}, []int{0, 0}), packedLists(t, []int{3, 2}, []int{1, 1}),
		packedLists(t, []int{2, 3}, []int{1, 0}), packedLists(t, []int{1, 0}, []int{3, 2}), packedLists(t, []int{3, 2}), packedLists(t, []int{3, 2, 0}, []int{1, 0, 0}),
		packedLists(t, []int{3, 2}, []int{1, 0}, nil), append(bytes.Clone(right), 0), right[:5], nil, {2, 3, 0x13, 2, 1, 1},
	} {
		if holdOpen(t, s, repacked(t, image, 3, body)) {
			t.Errorf("with the lengths % x: taken", body)
		}
	}
}

// P10.3: a dictionary with another entry alone is never what Build makes.
func TestOpenOfOtherDictionaries(t *testing.T) {
	s := mustParse(t, chapterSchema)
	image := mustBuild(t, s, chapterDocs())
	d, err := dict.Open(bodyOf(t, image, 4))
	if err != nil {
		t.Fatal(err)
	}
	var right []api.Entry
	for _, e := range d.Walk(0) {
		right = append(right, e)
	}
	hold := func(entries []api.Entry, want bool) {
		t.Helper()
		body, err := dict.Build(entries)
		if err != nil {
			t.Fatal(err)
		}
		if taken := holdOpen(t, s, repacked(t, image, 4, body)); taken != want {
			t.Errorf("with the entries %v: taken %v", entries, taken)
		}
	}
	hold(right, true)
	hold(nil, false)
	hold(append(slices.Clone(right), api.Entry{Key: "\x01y"}), false)
	for i := range right {
		hold(slices.Delete(slices.Clone(right), i, i+1), false)
		for _, change := range []func(*api.Entry){
			func(e *api.Entry) { e.Key += "0" },
			func(e *api.Entry) { e.Docs++ },
			func(e *api.Entry) { e.Total-- },
			func(e *api.Entry) { e.At++ },
			func(e *api.Entry) { e.At = 1<<31 - 1 },
			func(e *api.Entry) { e.Size-- },
			func(e *api.Entry) { e.Size = 1<<31 - 1 },
		} {
			other := slices.Clone(right)
			change(&other[i])
			hold(other, false)
		}
	}
	swapped := slices.Clone(right)
	swapped[1].At, swapped[1].Size, swapped[2].At, swapped[2].Size = swapped[2].At, swapped[2].Size, swapped[1].At, swapped[1].Size
	hold(swapped, false)
	for i := range bodyOf(t, image, 4) {
		body := bodyOf(t, image, 4)
		body[i] ^= 1
		if holdOpen(t, s, repacked(t, image, 4, body)) {
			t.Errorf("with byte %d of the dictionary changed: taken", i)
		}
	}
}

// P10.3: other postings alone are never what Build makes, and neither are postings and dictionary that fit each other but not the documents.
func TestOpenOfOtherPostings(t *testing.T) {
	s := mustParse(t, chapterSchema)
	image := mustBuild(t, s, chapterDocs())
	right := modelRows(s, chapterDocs())
	hold := func(rows []api.Row, want bool) {
		t.Helper()
		var entries []api.Entry
		w := codec.NewWriter()
		for _, r := range rows {
			b, err := posts.Encode(r.Posts)
			if err != nil {
				t.Fatal(err)
			}
			e := api.Entry{Key: segment.Key(r.Field, r.Term), Docs: len(r.Posts), At: w.Len(), Size: len(b)}
			for _, p := range r.Posts {
				e.Total += len(p.Pos)
			}
			entries = append(entries, e)
			w.Raw(b)
		}
		terms, err := dict.Build(entries)
		if err != nil {
			t.Fatal(err)
		}
		if taken := holdOpen(t, s, repacked(t, image, 5, w.Bytes())); taken != want {
			t.Errorf("with the postings of %v: taken %v", rows, taken)
		}
		both := repacked(t, repacked(t, image, 5, w.Bytes()), 4, terms)
		if taken := holdOpen(t, s, both); taken != want {
			t.Errorf("with the postings and the dictionary of %v: taken %v", rows, taken)
		}
	}
	hold(right, true)
	for i := range right {
		for _, list := range [][]api.Posting{
			nil,
			{{Doc: 2, Pos: []int{0}}},
			{{Doc: 0, Pos: []int{0, 1, 2}}},
			{{Doc: 0, Pos: []int{5}}},
			{{Doc: 1, Pos: []int{9}}},
			{{Doc: 0, Pos: []int{1}}, {Doc: 1, Pos: []int{1}}},
		} {
			rows := slices.Clone(right)
			rows[i].Posts = list
			hold(rows, false)
		}
	}
	body := bodyOf(t, image, 5)
	for i := range body {
		b := bytes.Clone(body)
		b[i] ^= 1
		if holdOpen(t, s, repacked(t, image, 5, b)) || holdOpen(t, s, repacked(t, image, 5, body[:i])) {
			t.Errorf("with the postings changed or cut at %d: taken", i)
		}
	}
	if holdOpen(t, s, repacked(t, image, 5, append(body, 0))) {
		t.Error("with a byte behind the postings: taken")
	}
}

// P10.3: stored values of other tokens are refused; of the same tokens they make an image of other documents.
func TestOpenOfOtherStoredValues(t *testing.T) {
	s := mustParse(t, chapterSchema)
	image := mustBuild(t, s, chapterDocs())
	for _, row := range []struct {
		body  string
		taken bool
	}{
		{"\x02\x00\x05a b a\x01\x01x" + "\x02\x00\x01b\x00\x01c", true},
		{"\x02\x00\x05a,b a\x01\x01x" + "\x02\x00\x01b\x00\x01c", true},
		{"\x02\x00\x09 a  b  a \x01\x01x" + "\x02\x00\x01b\x00\x01c", true},
		{"\x02\x01\x01x\x00\x05a b a" + "\x02\x00\x01b\x00\x01c", true},
		{"\x02\x00\x05a b b\x01\x01x" + "\x02\x00\x01b\x00\x01c", false},
		{"\x02\x00\x05b a a\x01\x01x" + "\x02\x00\x01b\x00\x01c", false},
		{"\x02\x00\x05a b A\x01\x01x" + "\x02\x00\x01b\x00\x01c", false},
		{"\x02\x00\x05a b a\x01\x01y" + "\x02\x00\x01b\x00\x01c", false},
		{"\x02\x00\x05a b a\x01\x01x" + "\x02\x00\x01c\x00\x01b", false},
		{"\x02\x00\x01b\x00\x01c" + "\x02\x00\x05a b a\x01\x01x", false},
		{"\x03\x00\x05a b a\x01\x01x\x00\x00" + "\x02\x00\x01b\x00\x01c", true},
		{"\x03\x00\x00\x00\x05a b a\x01\x01x" + "\x02\x00\x01b\x00\x01c", false},
		{"\x02\x00\x05a b a\x01\x01x" + "\x02\x00\x01b\x00\x01c\x00", false},
		{"\x02\x00\x05a b a\x01\x01x" + "\x02\x00\x01b\x00\x02c", false},
		{"\x02\x00\x05a b a\x02\x01x" + "\x02\x00\x01b\x00\x01c", false},
		{"\x02\x80\x00\x05a b a\x01\x01x" + "\x02\x00\x01b\x00\x01c", false},
		{"\x82\x00\x00\x05a b a\x01\x01x" + "\x02\x00\x01b\x00\x01c", false},
		{"\x02\x00\x05a b a\x01\x01x", false},
		{"\x02\x00\x05a b a\x01\x00" + "\x02\x00\x01b\x00\x01c", false},
		{"\x02\x00\x05a b a\x01\x01x" + "\x01\x00\x03b c", false},
		{"", false},
	} {
		if taken := holdOpen(t, s, repacked(t, image, 6, []byte(row.body))); taken != row.taken {
			t.Errorf("with the stored documents %q: taken %v", row.body, taken)
		}
	}
}

// P10.3: values that Good refuses make no segment, though their bytes could be read.
func TestOpenOfValuesThatAreNotGood(t *testing.T) {
	for _, row := range []struct {
		schema string
		stored []byte
	}{
		{"a:text", storedBytes(0, strings.Repeat(".", api.MaxText+1))},
		{"k:keyword", storedBytes(0, "")},
		{"k:keyword", storedBytes(0, strings.Repeat("k", api.MaxTerm+1))},
		{"n:number", storedBytes(0, "x")},
		{"n:number", storedBytes(0, "")},
		{"a:text", storedBytes(1, "")},
		{"a:text", append([]byte{api.MaxValues + 1}, bytes.Repeat([]byte{0, 0}, api.MaxValues+1)...)},
	} {
		s := mustParse(t, row.schema)
		image := mustBuild(t, s, []api.Doc{doc(1)})
		if holdOpen(t, s, repacked(t, image, 6, row.stored)) {
			t.Errorf("over %s, with the stored document %.60q: taken", row.schema, row.stored)
		}
	}
	s := mustParse(t, "a:text")
	image := mustBuild(t, s, []api.Doc{doc(1)})
	for _, good := range [][]byte{storedBytes(0, strings.Repeat(".", api.MaxText)), append([]byte{api.MaxValues}, bytes.Repeat([]byte{0, 0}, api.MaxValues)...)} {
		if !holdOpen(t, s, repacked(t, image, 6, good)) {
			t.Errorf("with the stored document %.60q: refused", good)
		}
	}
}

// storedBytes is block 6 of one document with one value.
func storedBytes(field int, text string) []byte {
	w := codec.NewWriter()
	w.Uvarint(1)
	w.Uvarint(uint64(field))
	w.Text(text)
	return w.Bytes()
}

// P10.3: more documents than may be.
func TestOpenOfTooManyDocuments(t *testing.T) {
	s := mustParse(t, "a:text")
	for _, n := range []int{api.MaxDocs, api.MaxDocs + 1} {
		var ids []int
		for i := range n {
			ids = append(ids, i)
		}
		empty, err := dict.Build(nil)
		if err != nil {
			t.Fatal(err)
		}
		fields, err := schema.Encode(s)
		if err != nil {
			t.Fatal(err)
		}
		image := packed(t, []api.Block{{Tag: 1, Body: fields}, {Tag: 2, Body: rising(t, ids...)}, {Tag: 3, Body: packedLists(t, make([]int, n))}, {Tag: 4, Body: empty}, {Tag: 5}, {Tag: 6, Body: make([]byte, n)}})
		if taken := holdOpen(t, s, image); taken != (n <= api.MaxDocs) {
			t.Errorf("%d documents: taken %v", n, taken)
		}
	}
}

// P10.3: an image opens over the schema that it was built over alone, though the documents would be good over others.
func TestOpenOverOtherSchemas(t *testing.T) {
	texts := []string{"a:text;b:text", "a:text;c:text", "b:text;a:text", "a:text", "a:text;b:text;c:text", "a:text,fold;b:text", "a:text,stop;b:text", "a:text;b:text,stem", "a:keyword;b:text", "a:text;b:keyword"}
	for _, built := range texts {
		for _, docs := range [][]api.Doc{nil, {doc(4)}, {doc(4, "a", "x")}} {
			if s := mustParse(t, built); modelMakes(s, docs) {
				image := mustBuild(t, s, docs)
				for _, over := range texts {
					if taken := holdOpen(t, mustParse(t, over), image); taken != (over == built) {
						t.Errorf("an image over %s, opened over %s: taken %v", built, over, taken)
					}
				}
				for _, over := range texts {
					fields, err := schema.Encode(mustParse(t, over))
					if err != nil {
						t.Fatal(err)
					}
					if taken := holdOpen(t, s, repacked(t, image, 1, fields)); taken != (over == built) {
						t.Errorf("an image over %s, with the bytes of %s: taken %v", built, over, taken)
					}
				}
			}
		}
	}
}

// P10.3: a schema that isn't good comes ahead of all that bytes may have.
func TestOpenSchemaErrors(t *testing.T) {
	good := mustBuild(t, mustParse(t, "a:text"), []api.Doc{doc(1, "a", "b")})
	for _, s := range badSchemas() {
		for _, image := range [][]byte{nil, {}, good, good[1:], {0}} {
			if g, err := segment.Open(s, image); g != nil || err != api.ErrSchema {
				t.Errorf("Open over %v answers %v and %v", s, g, err)
			}
		}
	}
}

// P10.3: no bytes, few bytes, bytes of another layer.
func TestOpenOfOtherBytes(t *testing.T) {
	s := mustParse(t, chapterSchema)
	fields, err := schema.Encode(s)
	if err != nil {
		t.Fatal(err)
	}
	for _, b := range [][]byte{nil, {}, {0}, []byte("cncd"), []byte("cncdS\x06"), fields, bytes.Repeat([]byte{0xff}, 100), make([]byte, 100)} {
		if g, err := segment.Open(s, b); g != nil || err != api.ErrCorrupt {
			t.Errorf("Open of % x answers %v and %v", b, g, err)
		}
	}
}

// P10.3: bytes of one block changed, cut or put in by the dice, under a right frame.
func TestOpenOfMadeBytes(t *testing.T) {
	dice := rand.New(rand.NewSource(103))
	taken := 0
	for _, text := range schemas() {
		s := mustParse(t, text)
		for range 400 {
			image := mustBuild(t, s, madeDocs(dice, s, dice.Intn(4)))
			tag := 1 + dice.Intn(6)
			if holdOpen(t, s, repacked(t, image, tag, changed(dice, bodyOf(t, image, tag)))) {
				taken++
			}
		}
	}
	if taken < 10 {
		t.Errorf("only %d of the changed images are taken: the dice tell too little", taken)
	}
}

// changed is bytes with one thing done to them.
func changed(dice *rand.Rand, b []byte) []byte {
	if len(b) == 0 {
		return []byte{byte(dice.Intn(3))}
	}
	at := dice.Intn(len(b))
	switch dice.Intn(4) {
	case 0:
		return slices.Delete(bytes.Clone(b), at, at+1)
	case 1:
		return slices.Insert(bytes.Clone(b), at, byte(dice.Intn(256)))
	case 2:
		return b[:at]
	}
	other := bytes.Clone(b)
	other[at] += byte(1 + dice.Intn(3))
	return other
}

// FuzzOpen looks for bytes over which Open and its model disagree: any bytes, and the bytes as a block's body under a right frame.
func FuzzOpen(f *testing.F) {
	s := mustParse(f, chapterSchema)
	image := mustBuild(f, s, chapterDocs())
	f.Add(0, image)
	for tag := 1; tag <= 6; tag++ {
		f.Add(tag, bodyOf(f, image, tag))
	}
	f.Add(2, rising(f, 3, 8))
	f.Fuzz(func(t *testing.T, tag int, b []byte) {
		if tag >= 1 && tag <= 6 {
			b = repacked(t, image, tag, b)
		}
		holdOpen(t, s, b)
	})
}

// FuzzDocuments looks for documents over which Build and its model disagree, or which don't come back.
func FuzzDocuments(f *testing.F) {
	f.Add(0, "a b a", 3, "b c", "x")
	f.Add(1, "The red foxes", 1, "it's 3.14", "Red")
	f.Add(5, "", 0, "", "")
	f.Fuzz(func(t *testing.T, id int, first string, step int, second, key string) {
		for _, text := range []string{chapterSchema, "k:keyword;t:text,fold,stop,stem"} {
			s := mustParse(t, text)
			docs := []api.Doc{doc(id, "t", first, "k", key, "t", second), doc(id+step, "t", second, "k", second)}
			image, err := segment.Build(s, docs)
			if modelMakes(s, docs) != (err == nil) {
				t.Fatalf("Build of %v answers %v", docs, err)
			}
			if err != nil {
				continue
			}
			if !bytes.Equal(image, modelImage(t, s, docs)) {
				t.Fatalf("Build of %v is % x", docs, image)
			}
			g, err := segment.Open(s, image)
			if err != nil {
				t.Fatalf("Open of the image of %v answers %v", docs, err)
			}
			holdSegment(t, g, s, docs, image)
			holdOneThing(t, g)
		}
	})
}
