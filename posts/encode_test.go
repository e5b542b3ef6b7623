package posts_test

import (
	"bytes"
	"encoding/hex"
	"math"
	"math/rand"
	"slices"
	"strings"
	"testing"

	"concord/api"
	"concord/posts"
)

// holdEncode holds Encode against the model, and tells whether the list is good.
func holdEncode(t testing.TB, list []api.Posting) bool {
	t.Helper()
	before := kept(list)
	b, err := posts.Encode(list)
	if !alike(list, before) {
		t.Fatalf("Encode changed %v to %v", before, list)
	}
	fault := modelFault(list)
	if err != fault {
		t.Fatalf("Encode of %v answers %v, not %v", list, err, fault)
	}
	if err != nil && len(b) != 0 {
		t.Fatalf("Encode of %v answers % x beside %v", list, b, err)
	}
	if err == nil && !bytes.Equal(b, modelBytes(list)) {
		t.Fatalf("Encode of %v is % x, not % x", list, b, modelBytes(list))
	}
	return err == nil
}

// P8.1: the chapter's examples, and their kin.
func TestEncodeExamples(t *testing.T) {
	for _, row := range []struct {
		list []api.Posting
		want string
	}{
		{nil, "00 00"},
		{[]api.Posting{}, "00 00"},
		{onePosition(0, 0), "01 01 00 05 01 00 01 00 00"},
		{[]api.Posting{{Doc: 2, Pos: []int{1, 4}}, {Doc: 5, Pos: []int{0}}}, "02 03 05 09 02 02 0a 02 01 01 01 02 00"},
		{onePosition(3, 1), "01 01 01 06 01 01 01 01 00 03"},
		{[]api.Posting{{Doc: 0, Pos: []int{0, 1, 128, 256}}}, "01 04 00 09 01 00 01 02 03 00 00 7e 7f"},
		{onePosition(300, 0, 1), "02 02 01 08 02 00 02 00 ac 02 ac 02"},
		{onePosition(0, 2147483646), "01 01 fe ff ff ff 07 09 01 1f fe ff ff 7f 01 00 00"},
		{onePosition(math.MaxInt, 0), "01 01 00 0d 01 00 01 00 ff ff ff ff ff ff ff ff 7f"},
		{[]api.Posting{{Doc: 0, Pos: []int{0, math.MaxInt}}}, "01 02 00 0f 01 00 01 01 01 00 fe ff ff ff ff ff ff ff 7f"},
	} {
		b, err := posts.Encode(row.list)
		if got := hex.EncodeToString(b); err != nil || got != strings.ReplaceAll(row.want, " ", "") {
			t.Errorf("Encode of %v is %s and %v, not %s", row.list, got, err, row.want)
		}
		holdEncode(t, row.list)
	}
}

// P8.1, P8.4: how many blocks there are, and what a block behind another one begins with: its base is the last document ahead of it.
func TestEncodeBlocks(t *testing.T) {
	for n, ahead := range map[int]string{
		0:  "00 00",
		1:  "01 01 00 05",
		15: "0f 0f 0e 13",
		16: "10 10 0f 14",
		17: "11 11 0f 14 00 05",
		31: "1f 1f 0f 14 0e 13",
		32: "20 20 0f 14 0f 14",
		33: "21 21 0f 14 0f 14 00 05",
	} {
		var docs []int
		for i := range n {
			docs = append(docs, i)
		}
		list := onePosition(0, docs...)
		want, _ := hex.DecodeString(strings.ReplaceAll(ahead, " ", ""))
		if b := mustEncode(t, list); !bytes.HasPrefix(b, want) {
			t.Errorf("Encode of %d documents is % x, not %s and the blocks", n, b, ahead)
		}
		holdEncode(t, list)
	}
	// The base of block 1 is 150: so its one document is told by a 9, as those of block 0 behind the first are.
	b := mustEncode(t, onePosition(2, 0, 10, 20, 30, 40, 50, 60, 70, 80, 90, 100, 110, 120, 130, 140, 150, 160))
	want := "1111" + "96011c" + "0906" + "1004" + "90" + strings.Repeat("99", 7) + "1000" + strings.Repeat("02", 16) + "010409" + "0100" + "02"
	if got := hex.EncodeToString(b); got != want {
		t.Errorf("Encode of 17 documents is %s, not %s", got, want)
	}
}

// P8.1
func TestEncodeOfManyKinds(t *testing.T) {
	for name, list := range named() {
		if !holdEncode(t, list) {
			t.Fatalf("Encode refuses %s", name)
		}
	}
	holdEncode(t, counted(5000, 3))
	holdEncode(t, positions(100000, 2))
}

// badPosting is a posting that is refused wherever it stands, and by what.
type badPosting struct {
	p    api.Posting
	want error
}

// badPostings are bad ones in the place of a good one of the document doc.
func badPostings(doc int) []badPosting {
	one := []int{0}
	return []badPosting{
		{api.Posting{Doc: -1, Pos: one}, api.ErrRange},
		{api.Posting{Doc: math.MinInt, Pos: one}, api.ErrRange},
		{api.Posting{Doc: 2147483647, Pos: one}, api.ErrRange},
		{api.Posting{Doc: 2147483648, Pos: one}, api.ErrRange},
		{api.Posting{Doc: math.MaxInt, Pos: one}, api.ErrRange},
		{api.Posting{Doc: doc}, api.ErrRange},
		{api.Posting{Doc: doc, Pos: []int{}}, api.ErrRange},
		{api.Posting{Doc: doc, Pos: []int{-1}}, api.ErrRange},
		{api.Posting{Doc: doc, Pos: []int{math.MinInt}}, api.ErrRange},
		{api.Posting{Doc: doc, Pos: []int{-1, 0}}, api.ErrRange},
		{api.Posting{Doc: doc, Pos: []int{0, 1, 2, -3}}, api.ErrRange},
		{api.Posting{Doc: doc, Pos: []int{0, -3, 2}}, api.ErrRange},
		{api.Posting{Doc: doc, Pos: []int{0, 0}}, api.ErrOrder},
		{api.Posting{Doc: doc, Pos: []int{3, 3}}, api.ErrOrder},
		{api.Posting{Doc: doc, Pos: []int{3, 2}}, api.ErrOrder},
		{api.Posting{Doc: doc, Pos: []int{0, 1, 2, 3, 3}}, api.ErrOrder},
		{api.Posting{Doc: doc, Pos: []int{0, 1, 5, 4, 6}}, api.ErrOrder},
		{api.Posting{Doc: doc, Pos: []int{math.MaxInt, math.MaxInt}}, api.ErrOrder},
		{api.Posting{Doc: doc, Pos: []int{math.MaxInt, 0}}, api.ErrOrder},
		// Two faults in one posting: the one that is named first counts.
		{api.Posting{Doc: -1}, api.ErrRange},
		{api.Posting{Doc: -1, Pos: []int{3, 3}}, api.ErrRange},
		{api.Posting{Doc: 2147483647, Pos: []int{3, 3}}, api.ErrRange},
		{api.Posting{Doc: doc, Pos: []int{3, -1}}, api.ErrRange},
		{api.Posting{Doc: doc, Pos: []int{3, 3, -1}}, api.ErrRange},
		{api.Posting{Doc: doc, Pos: []int{-1, -1}}, api.ErrRange},
	}
}

func refusedList(t *testing.T, list []api.Posting, want error) {
	t.Helper()
	if b, err := posts.Encode(list); err != want || len(b) != 0 {
		t.Errorf("Encode of %v answers % x and %v, not %v", list, b, err, want)
	}
	holdEncode(t, list)
}

// P8.1: a bad posting, wherever it stands.
func TestEncodeBadPostings(t *testing.T) {
	list := counted(40, 5)
	for at, p := range list {
		for _, row := range badPostings(p.Doc) {
			bad := kept(list)
			bad[at] = row.p
			refusedList(t, bad, row.want)
			refusedList(t, bad[:at+1], row.want)
		}
	}
}

// P8.1: documents that don't rise, alone and with another fault in the posting: what is wrong with its positions is named behind it.
func TestEncodeOrderOfDocuments(t *testing.T) {
	list := counted(40, 5)
	for i := 1; i < len(list); i++ {
		for _, less := range []int{0, 1, 2, 5} {
			doc := list[i-1].Doc - less
			if doc < 0 {
				continue
			}
			for _, pos := range [][]int{{0}, nil, {-1}, {3, 3}, {3, -1}} {
				bad := kept(list)
				bad[i] = api.Posting{Doc: doc, Pos: pos}
				refusedList(t, bad, api.ErrOrder)
				refusedList(t, bad[:i+1], api.ErrOrder)
				if i+1 < len(bad) {
					// A fault further on doesn't count.
					bad[i+1].Doc = -1
					refusedList(t, bad, api.ErrOrder)
				}
			}
		}
	}
	// The document ahead counts, not the greatest so far alone; the first has none ahead.
	refusedList(t, onePosition(0, 5, 4, 9), api.ErrOrder)
	refusedList(t, onePosition(0, 2147483646, 2147483646), api.ErrOrder)
	refusedList(t, onePosition(0, 2147483646, 0), api.ErrOrder)
	refusedList(t, onePosition(0, 2147483646, 2147483647), api.ErrRange)
	refusedList(t, onePosition(0, 0, 0), api.ErrOrder)
}

// P8.1: faults in two postings: the first posting counts, whatever its fault.
func TestEncodeTwoBadPostings(t *testing.T) {
	list := counted(20, 10)
	for _, at := range []int{0, 3, 16} {
		for _, first := range badPostings(list[at].Doc) {
			for _, second := range badPostings(list[at+2].Doc) {
				bad := kept(list)
				bad[at], bad[at+2] = first.p, second.p
				refusedList(t, bad, first.want)
			}
		}
	}
}

// P8.1: lists of few numbers, good and bad.
func TestEncodeOfMadeLists(t *testing.T) {
	dice := rand.New(rand.NewSource(81))
	numbers := []int{-1, 0, 1, 2, 3, 4, 2147483645, 2147483646, 2147483647, math.MaxInt}
	good := 0
	for range 60000 {
		var list []api.Posting
		for range dice.Intn(4) {
			p := api.Posting{Doc: numbers[dice.Intn(len(numbers))]}
			for range dice.Intn(4) {
				p.Pos = append(p.Pos, numbers[dice.Intn(len(numbers))])
			}
			if dice.Intn(3) > 0 {
				slices.Sort(p.Pos)
			}
			list = append(list, p)
		}
		if dice.Intn(2) == 0 {
			slices.SortFunc(list, func(a, b api.Posting) int { return a.Doc - b.Doc })
		}
		if holdEncode(t, list) {
			good++
		}
	}
	if good < 1000 {
		t.Errorf("only %d of the lists were good", good)
	}
}

// P8.1, rule 5: the lists stay as they are, spare room included, and the bytes are new each time.
func TestEncodeSharesNothing(t *testing.T) {
	for name, list := range named() {
		room := make([]api.Posting, len(list), len(list)+3)
		for i, p := range list {
			room[i] = api.Posting{Doc: p.Doc, Pos: append(make([]int, 0, len(p.Pos)+2), p.Pos...)}
			room[i].Pos = append(room[i].Pos, 77, 78)[:len(p.Pos)]
		}
		spare := room[:cap(room)]
		for i := len(room); i < len(spare); i++ {
			spare[i].Doc = 70 + i
		}
		first, second := mustEncode(t, room), mustEncode(t, room)
		for i := range spare {
			if i >= len(room) {
				if spare[i].Doc != 70+i || spare[i].Pos != nil {
					t.Fatalf("Encode of %s wrote behind the list", name)
				}
				continue
			}
			pos := room[i].Pos[:len(room[i].Pos)+2]
			if room[i].Doc != list[i].Doc || !slices.Equal(pos, append(slices.Clone(list[i].Pos), 77, 78)) {
				t.Fatalf("Encode of %s changed the posting %d", name, i)
			}
		}
		wipeBytes(second)
		wipeList(room)
		if !bytes.Equal(first, modelBytes(list)) {
			t.Fatalf("the bytes of %s see what was written elsewhere", name)
		}
	}
}
