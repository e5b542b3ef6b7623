package merge_test

import (
	"bytes"
	"encoding/hex"
	"fmt"
	"math/rand"
	"slices"
	"testing"

	"concord/api"
	"concord/merge"
	"concord/segment"
)

// holdMerge holds the image of parts whose ids rise against what Build makes of their live documents.
func holdMerge(t *testing.T, s api.Schema, list []made) {
	t.Helper()
	image, err := merge.Merge(s, partsOf(list))
	want := mustBuild(t, s, docsOf(list))
	if err != nil || !bytes.Equal(image, want) {
		t.Fatalf("Merge of %d parts with the documents %s answers %v and %s, not %s", len(list), brief(docsOf(list)), err, brief(image), brief(want))
	}
}

// holdRefused holds an error of Merge, with no image beside it.
func holdRefused(t *testing.T, s api.Schema, list []made, want error) {
	t.Helper()
	if image, err := merge.Merge(s, partsOf(list)); err != want || len(image) != 0 {
		t.Errorf("Merge of %d parts with the documents %s answers %d bytes and %v, not %v", len(list), brief(docsOf(list)), len(image), err, want)
	}
}

// P11.1
func TestMergeOfNamedLists(t *testing.T) {
	s := mustParse(t, wholeSchema)
	for name, list := range namedLists(t) {
		t.Run(name, func(t *testing.T) {
			holdMerge(t, s, list)
		})
	}
}

// P11.1: images written out, by chapter 10.
func TestMergeBytes(t *testing.T) {
	s := mustParse(t, "t:text;k:keyword")
	first := mustMake(t, s, []api.Doc{doc(1, "t", "gone"), doc(3, "t", "a b a", "k", "x"), doc(4, "k", "gone")}, 0, 2)
	second := mustMake(t, s, []api.Doc{doc(7, "t", "b", "t", "c")})
	head := "636e63645306" + "010702017401016b0265535f7a"
	for _, row := range []struct {
		list  []made
		image string
	}{
		{nil, head + "0201003d3cdee5" + "030200009ca47530" + "0401008f4053e1" + "0500bae6ae3c" + "060079b58317" + "d2a70839"},
		{[]made{first, second}, head + "020302030384ddf71f" + "030602020b020101634dec05" +
			"0420" + "041e" + "000200610102000b" + "01016202020b0a" + "0101630101150a" + "0002017801011f09" + "168b5d9e" +
			"0528" + "0102000701000101010001" + "02020106020002000100" + "01010106010101010011" + "010100050100010000" + "97a9e9ff" +
			"0612" + "0200056120622061010178" + "02000162000163" + "1a659433" + "30286fff"},
	} {
		image, err := merge.Merge(s, partsOf(row.list))
		if got := hex.EncodeToString(image); err != nil || got != row.image {
			t.Errorf("Merge of %d parts answers %v and %s, not %s", len(row.list), err, got, row.image)
		}
	}
}

// P11.1
func TestMergeOfMadeParts(t *testing.T) {
	dice := rand.New(rand.NewSource(111))
	for _, text := range []string{wholeSchema, otherSchema, "a:text", "k:keyword", "n:number"} {
		s := mustParse(t, text)
		for n := range 7 {
			for range 8 {
				holdMerge(t, s, madeParts(t, dice, s, n))
			}
		}
	}
}

// P11.1: of a schema that isn't good, whatever the parts are.
func TestMergeOfBadSchemas(t *testing.T) {
	s := mustParse(t, "raw:text")
	a := mustMake(t, s, plain(1, 2))
	for _, bad := range badSchemas() {
		for _, list := range [][]made{nil, {}, {a}, {a, a}, {mustMake(t, s, nil)}} {
			holdRefused(t, bad, list, api.ErrSchema)
		}
	}
}

// P11.1: of one part with another schema, wherever it stands, with live documents or without any.
func TestMergeOfOtherSchemas(t *testing.T) {
	s := mustParse(t, "raw:text;tag:keyword;m:number")
	for _, text := range []string{
		"raw:text;tag:keyword", "raw:text", "tag:keyword;m:number", "raw:text;tag:keyword;m:number;n:number",
		"raw:text;m:number;tag:keyword", "tag:keyword;raw:text;m:number", "raw:text;tags:keyword;m:number", "raw:text;tag:keyword;n:number",
		"raw:text;tag:number;m:number", "raw:text;tag:text;m:number", "raw:keyword;tag:keyword;m:number",
		"raw:text,fold;tag:keyword;m:number", "raw:text,stop;tag:keyword;m:number", "raw:text,stem;tag:keyword;m:number",
	} {
		z := mustParse(t, text)
		others := []made{mustMake(t, z, nil), mustMake(t, z, []api.Doc{doc(10)}), mustMake(t, z, []api.Doc{doc(10)}, 0)}
		for _, other := range others {
			a, b := mustMake(t, s, plain(1)), mustMake(t, s, plain(20))
			for _, list := range [][]made{{other}, {other, other}, {other, a, b}, {a, other, b}, {a, b, other}} {
				holdRefused(t, s, list, api.ErrSchema)
			}
			holdRefused(t, z, []made{other, b}, api.ErrSchema)
			holdMerge(t, z, []made{other})
		}
	}
}

// P11.1: as many live documents as may be, one more, and more where the dead don't count.
func TestMergeOfMostDocuments(t *testing.T) {
	s := mustParse(t, wholeSchema)
	low, high := mustMake(t, s, plain(run(0, 2048)...)), mustMake(t, s, plain(run(2048, 4097)...))
	most, more := mustMake(t, s, plain(run(0, 4096)...)), mustMake(t, s, plain(run(4096, 8192)...))
	none := mustMake(t, s, nil)
	for _, list := range [][]made{
		{low, high.with(t, 0)}, {low, high.with(t, 2048)}, {low.with(t, 7), high}, {low.with(t, 0), none, high},
		{most}, {most, none}, {none, most, more.with(t, run(0, 4096)...)},
		{most.with(t, 4095), more.with(t, run(1, 4096)...)}, {most.with(t, run(0, 2048)...), more.with(t, run(2048, 4096)...)},
	} {
		if n := len(docsOf(list)); n != api.MaxDocs {
			t.Fatalf("a list has %d live documents", n)
		}
		holdMerge(t, s, list)
	}
	for _, list := range [][]made{
		{low, high}, {low, none, high, none}, {most, more.with(t, run(1, 4096)...)}, {most, more.with(t, run(0, 4095)...)},
		{most, more}, {most.with(t, run(0, 2000)...), more.with(t, run(2097, 4096)...)},
	} {
		holdRefused(t, s, list, api.ErrLimit)
	}
	for _, list := range [][]made{
		{low, most.with(t, run(0, 2047)...)}, {most, most}, {more, low.with(t, run(1, 2048)...)},
		slices.Repeat([]made{mustMake(t, s, plain(1))}, api.MaxDocs+1),
	} {
		holdRefused(t, s, list, api.ErrLimit) // ahead of ErrOrder
	}
	holdRefused(t, s, slices.Repeat([]made{mustMake(t, s, plain(1))}, api.MaxDocs), api.ErrOrder)
	holdRefused(t, s, []made{high.with(t, 0), low}, api.ErrOrder)
}

// P11.1: ids that don't rise, between neighbours or over others without live documents.
func TestMergeOfIdsThatDontRise(t *testing.T) {
	s := mustParse(t, wholeSchema)
	empty, gone := mustMake(t, s, nil), mustMake(t, s, plain(4, 5), 0, 1)
	a, b := mustMake(t, s, plain(1, 5, 9)), mustMake(t, s, plain(9, 12))
	c, d := mustMake(t, s, plain(0)), mustMake(t, s, plain(api.MaxId-1))
	for _, list := range [][]made{
		{a, a}, {b, b}, {c, c}, {d, d}, {a, b}, {b, a}, {a, c}, {d, c}, {d, a}, {a, empty, a}, {a, empty, gone, empty, b},
		{c, a, b}, {c, a, d, a}, {c, d, c}, {a, d, b}, {gone.with(t), a}, {gone.with(t, 0), a}, {a, gone.with(t, 1)},
		{a.with(t, 0, 1), b}, {a.with(t, 0), b.with(t, 1)}, {b, b.with(t, 0)}, {b.with(t, 0), b.with(t, 0)}, {a.with(t, 2), a.with(t, 2)},
	} {
		holdRefused(t, s, list, api.ErrOrder)
	}
	for _, list := range [][]made{
		{c, a, b.with(t, 0), d}, {a.with(t, 2), b}, {a.with(t, 2), gone, b}, {b.with(t, 0, 1), a}, {gone.with(t, 1), a.with(t, 0)}, {a.with(t, 1, 2), gone.with(t), b},
		{a.with(t, 1, 2), a.with(t, 0, 2), a.with(t, 0, 1)},
	} {
		holdMerge(t, s, list)
	}
}

// P11.1: each pair of errors in one call.
func TestMergeFirstOfSeveralErrors(t *testing.T) {
	s, z := mustParse(t, wholeSchema), mustParse(t, otherSchema)
	a, other := mustMake(t, s, plain(3, 4)), mustMake(t, z, nil)
	many := mustMake(t, s, plain(run(5, 4101)...))
	for _, list := range [][]made{{a, a, other}, {other, a, a}, {a, many, other}, {many, a, other}, {many, many, other}, {other, many, a}} {
		holdRefused(t, s, list, api.ErrSchema)
		holdRefused(t, z, list, api.ErrSchema)
		holdRefused(t, api.Schema{}, list, api.ErrSchema)
	}
	for _, list := range [][]made{{many, a}, {a, a, many}, {many, many}, {many, a, many}} {
		holdRefused(t, s, list, api.ErrLimit)
		holdRefused(t, z, list, api.ErrSchema)
		holdRefused(t, badSchemas()[2], list, api.ErrSchema)
	}
	holdRefused(t, s, []made{a, a}, api.ErrOrder)
	holdRefused(t, z, []made{a, a}, api.ErrSchema)
	holdRefused(t, api.Schema{}, []made{a, a}, api.ErrSchema)
}

// joinNeighbours is the part of the merged parts.
func joinNeighbours(t *testing.T, s api.Schema, parts []*segment.Part) *segment.Part {
	t.Helper()
	image, err := merge.Merge(s, parts)
	if err != nil {
		t.Fatal(err)
	}
	return wholePart(t, mustOpen(t, s, image))
}

// holdNeighbours holds what comes of merging each choice of neighbours first against merging all at once.
func holdNeighbours(t *testing.T, s api.Schema, parts []*segment.Part) {
	t.Helper()
	all, err := merge.Merge(s, parts)
	if err != nil {
		t.Fatal(err)
	}
	for from := range len(parts) + 1 {
		for to := from; to <= len(parts); to++ {
			list := slices.Concat(parts[:from], []*segment.Part{joinNeighbours(t, s, parts[from:to])}, parts[to:])
			if image, err := merge.Merge(s, list); err != nil || !bytes.Equal(image, all) {
				t.Fatalf("of %d parts those from %d to %d merged first: %v, and another image", len(parts), from, to, err)
			}
		}
	}
}

// P11.3
func TestMergeOfNeighboursFirst(t *testing.T) {
	s := mustParse(t, wholeSchema)
	for name, list := range namedLists(t) {
		t.Run(name, func(t *testing.T) {
			holdNeighbours(t, s, partsOf(list))
		})
	}
	dice := rand.New(rand.NewSource(113))
	for n := range 6 {
		for range 4 {
			holdNeighbours(t, s, partsOf(madeParts(t, dice, s, n)))
		}
	}
}

// P11.3: every way to cut a few parts into neighbours, each of them merged first.
func TestMergeOfAllCuts(t *testing.T) {
	s := mustParse(t, wholeSchema)
	dice := rand.New(rand.NewSource(114))
	parts := partsOf(madeParts(t, dice, s, 6))
	all, err := merge.Merge(s, parts)
	if err != nil {
		t.Fatal(err)
	}
	for cuts := range 1 << (len(parts) - 1) {
		var list []*segment.Part
		from := 0
		for to := 1; to <= len(parts); to++ {
			if to == len(parts) || cuts>>(to-1)&1 == 1 {
				list = append(list, joinNeighbours(t, s, parts[from:to]))
				from = to
			}
		}
		if image, err := merge.Merge(s, list); err != nil || !bytes.Equal(image, all) {
			t.Fatalf("cut as %b: %v, and another image", cuts, err)
		}
	}
}

// P11.3: neighbour joined to neighbour, the first two at a time or the last two, up to one.
func TestMergeStepByStep(t *testing.T) {
	s := mustParse(t, wholeSchema)
	dice := rand.New(rand.NewSource(115))
	for range 10 {
		parts := partsOf(madeParts(t, dice, s, 5))
		all, err := merge.Merge(s, parts)
		if err != nil {
			t.Fatal(err)
		}
		left, right := parts[0], parts[len(parts)-1]
		for i := range len(parts) - 1 {
			left = joinNeighbours(t, s, []*segment.Part{left, parts[i+1]})
			right = joinNeighbours(t, s, []*segment.Part{parts[len(parts)-2-i], right})
		}
		if !bytes.Equal(left.Image(), all) || !bytes.Equal(right.Image(), all) {
			t.Fatal("merging step by step gives another image")
		}
	}
}

// Rule 5: what is handed in stays, spare room included; an image is new memory and doesn't hang on what is written into others.
func TestMergeSharesNothing(t *testing.T) {
	s := mustParse(t, wholeSchema)
	s.Fields = append(s.Fields, api.Field{Name: "spare", Kind: 9})[:4]
	fields := slices.Clone(s.Fields[:5])
	list := namedLists(t)["several, some dead"]
	spare := mustMake(t, s, nil).part
	parts := append(partsOf(list), spare)
	given := slices.Clone(parts)
	first, err := merge.Merge(s, parts[:len(list)])
	if err != nil {
		t.Fatal(err)
	}
	if !slices.Equal(parts, given) || !slices.Equal(s.Fields[:5], fields) {
		t.Error("Merge changed what was handed in")
	}
	kept := bytes.Clone(first)
	second, _ := merge.Merge(s, parts[:len(list)])
	whole := second[:cap(second)]
	for i := range whole {
		whole[i] ^= 0x55
	}
	clear(parts)
	for i := range s.Fields {
		s.Fields[i] = api.Field{Name: "wiped", Kind: api.KindNumber}
	}
	if !bytes.Equal(first, kept) {
		t.Error("an image changes with another one, or with what was handed in")
	}
	holdMerge(t, mustParse(t, wholeSchema), list)
	for _, m := range list {
		holdPart(t, m)
	}
}

// holdPart holds a part against the documents that it was made of: no call of this layer may change it.
func holdPart(t *testing.T, m made) {
	t.Helper()
	same := bytes.Equal(m.part.Image(), mustBuild(t, m.s, m.docs)) && m.part.Live() == len(m.live()) && slices.Equal(m.part.Dead().Members(), m.dead)
	if !same || fmt.Sprint(m.part.LiveDocs()) != fmt.Sprint(m.live()) {
		t.Fatalf("the part of %s with the dead %s has changed", brief(m.docs), brief(m.dead))
	}
}

// FuzzMerge goes on with made parts.
func FuzzMerge(f *testing.F) {
	for seed := range int64(20) {
		f.Add(seed, uint8(seed%8))
	}
	f.Fuzz(func(t *testing.T, seed int64, n uint8) {
		s := mustParse(t, wholeSchema)
		list := madeParts(t, rand.New(rand.NewSource(seed)), s, int(n%8))
		holdMerge(t, s, list)
		holdRows(t, list)
		holdNeighbours(t, s, partsOf(list))
	})
}
