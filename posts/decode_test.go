package posts_test

import (
	"bytes"
	"encoding/hex"
	"fmt"
	"math"
	"math/rand"
	"runtime"
	"slices"
	"strings"
	"testing"

	"concord/api"
	"concord/posts"
)

// holdDecode holds Decode and Open against the model, and Encode of what is found against the bytes; it tells whether they were taken.
func holdDecode(t testing.TB, b []byte) bool {
	t.Helper()
	before := bytes.Clone(b)
	list, err := posts.Decode(b)
	l, errOpen := posts.Open(b)
	if !bytes.Equal(b, before) {
		t.Fatalf("% x was changed to % x", before, b)
	}
	if err != errOpen {
		t.Fatalf("Decode of % x answers %v, Open %v", b, err, errOpen)
	}
	want, ok := modelDecode(b)
	if !ok {
		if err != api.ErrCorrupt || len(list) != 0 || l != nil {
			t.Fatalf("% x: Decode answers %v and %v, Open %v", b, list, err, l)
		}
		return false
	}
	if err != nil || !alike(list, want) {
		t.Fatalf("Decode of % x answers %v and %v, not %v", b, list, err, want)
	}
	if again, err := posts.Encode(list); err != nil || !bytes.Equal(again, b) {
		t.Fatalf("Decode of % x answers %v, of which Encode makes % x and %v", b, list, again, err)
	}
	holdList(t, l, list)
	return true
}

func refused(t *testing.T, what string, b []byte) {
	t.Helper()
	if list, err := posts.Decode(b); err != api.ErrCorrupt || len(list) != 0 {
		t.Errorf("Decode with %s (% .100x) answers %v and %v", what, b, list, err)
	}
	if l, err := posts.Open(b); err != api.ErrCorrupt || l != nil {
		t.Errorf("Open with %s (% .100x) answers %v and %v", what, b, l, err)
	}
	holdDecode(t, b)
}

func fromHex(t *testing.T, text string) []byte {
	t.Helper()
	b, err := hex.DecodeString(strings.ReplaceAll(text, " ", ""))
	if err != nil {
		t.Fatal(err)
	}
	return b
}

// P8.2: the chapter's examples, and their kin.
func TestDecodeExamples(t *testing.T) {
	for _, good := range []string{
		"00 00", "01 01 00 05 01 00 01 00 00", "02 03 05 09 02 02 0a 02 01 01 01 02 00",
	} {
		if !holdDecode(t, fromHex(t, good)) {
			t.Errorf("Decode refuses %s", good)
		}
	}
	for what, bad := range map[string]string{
		"a further byte":                   "00 00 00",
		"one byte":                         "00",
		"no byte":                          "",
		"a further position":               "01 01 00 05 01 00 01 00 01 01",
		"a further position, told by t":    "01 02 00 05 01 00 01 00 01 01",
		"a further byte in a block":        "01 01 00 06 01 00 01 00 01 01",
		"a position without a document":    "00 01 00",
		"a position told, without any":     "00 01",
		"a document without a position":    "01 00 00 04 01 00 01 00",
		"t too great":                      "01 02 00 05 01 00 01 00 00",
		"t too small":                      "01 00 00 05 01 00 01 00 00",
		"t below n":                        "02 01 01 06 02 00 02 00 00 00",
		"n too great":                      "02 01 00 05 01 00 01 00 00",
		"n too small":                      "00 01 00 05 01 00 01 00 00",
		"a last document too great":        "01 01 01 05 01 00 01 00 00",
		"a last document too small":        "01 01 00 06 01 01 01 01 00 00",
		"a size too great":                 "01 01 00 06 01 00 01 00 00",
		"a size too small":                 "01 01 00 04 01 00 01 00 00",
		"a long n":                         "81 00 01 00 05 01 00 01 00 00",
		"a long t":                         "01 81 00 00 05 01 00 01 00 00",
		"a long last document":             "01 01 80 00 05 01 00 01 00 00",
		"a long size":                      "01 01 00 85 00 01 00 01 00 00",
		"a long number of documents":       "01 01 00 06 81 00 00 01 00 00",
		"a long number of positions":       "01 01 00 06 01 00 81 00 00 00",
		"a long position":                  "01 01 00 06 01 00 01 00 80 00",
		"a width too great":                "01 01 00 06 01 01 00 01 00 00",
		"a width of the positions":         "01 01 00 06 01 00 01 01 00 00",
		"a bit left over":                  "01 01 01 06 01 01 03 01 00 00",
		"no document in a block":           "01 01 00 04 00 01 00 00",
		"no document, and no position":     "01 00 00 03 00 01 00",
		"one position of two":              "01 01 00 07 01 00 01 01 01 80 01",
		"one position of two, t 0":         "01 00 00 07 01 00 01 01 01 80 01",
		"no number of positions":           "01 01 00 04 01 00 00 00",
		"two documents in a block of one":  "01 01 00 05 02 00 01 00 00",
		"two numbers in a block of one":    "01 01 00 05 01 00 02 00 00",
		"two documents, the skip told too": "01 01 01 05 02 00 01 00 00",
		"no block":                         "01 01 00 05",
		"no skip entry":                    "01 01 01 00 01 00 00",
		"two skip entries":                 "01 01 00 05 00 00 01 00 01 00 00",
		"a block of no bytes":              "01 01 00 00",
		"a document at EndDoc":             "01 01 ff ff ff ff 07 09 01 1f ff ff ff 7f 01 00 00",
		"a document beyond":                "01 01 80 80 80 80 08 09 01 20 00 00 00 80 01 00 00",
		"a position of 2^63":               "01 01 00 0e 01 00 01 00 80 80 80 80 80 80 80 80 80 01",
		"a position of 2^64 - 1":           "01 01 00 0e 01 00 01 00 ff ff ff ff ff ff ff ff ff 01",
		"positions up to 2^63":             "01 02 00 0f 01 00 01 01 01 00 ff ff ff ff ff ff ff ff 7f",
		"a position behind the greatest":   "01 02 00 0f 01 00 01 01 01 ff ff ff ff ff ff ff ff 7f 00",
	} {
		refused(t, what, fromHex(t, bad))
	}
}

// P8.2
func TestThereAndBack(t *testing.T) {
	for name, list := range named() {
		b := mustEncode(t, list)
		got, err := posts.Decode(b)
		if err != nil || !alike(got, list) {
			t.Fatalf("Decode of the bytes of %s answers %v and %v", name, got, err)
		}
		if !holdDecode(t, b) {
			t.Fatalf("the bytes of %s are refused", name)
		}
	}
	for _, list := range [][]api.Posting{counted(5000, 3), counted(4096, 1), positions(100000, 2)} {
		if !holdDecode(t, mustEncode(t, list)) {
			t.Fatalf("the bytes of %d documents are refused", len(list))
		}
	}
}

// P8.2: no beginning of such bytes is taken, and nothing that is longer.
func TestDecodeCutAndLengthened(t *testing.T) {
	for name, list := range named() {
		b := mustEncode(t, list)
		for i := range b {
			if got, err := posts.Decode(b[:i]); err != api.ErrCorrupt || len(got) != 0 {
				t.Fatalf("Decode of the first %d bytes of %s answers %v", i, name, err)
			}
			if l, err := posts.Open(b[:i]); err != api.ErrCorrupt || l != nil {
				t.Fatalf("Open of the first %d bytes of %s answers %v", i, name, err)
			}
		}
		for _, more := range []string{"\x00", "\x01", "\x80", "\xff", "\x00\x00", "\x01\x00\x01\x00\x00"} {
			refused(t, "bytes behind "+name, append(bytes.Clone(b), more...))
		}
		refused(t, "the bytes of "+name+" twice", append(bytes.Clone(b), b...))
	}
}

// P8.2: such bytes with one byte changed, dropped or put in.
func TestDecodeOneByteOff(t *testing.T) {
	for i, list := range small() {
		t.Run(fmt.Sprint("list ", i, " of ", len(list)), func(t *testing.T) {
			t.Parallel()
			holdOneByteOff(t, mustEncode(t, list))
		})
	}
}

func holdOneByteOff(t *testing.T, b []byte) {
	for i := range b {
		other := bytes.Clone(b)
		for v := range 256 {
			other[i] = byte(v)
			holdDecode(t, other)
		}
		holdDecode(t, slices.Delete(bytes.Clone(b), i, i+1))
	}
	for i := range len(b) + 1 {
		for _, v := range []byte{0, 1, 2, 5, 16, 127, 128, 129, 255} {
			holdDecode(t, slices.Insert(bytes.Clone(b), i, v))
		}
	}
}

// P8.2: bytes changed in several places at once.
func TestDecodeManyBytesOff(t *testing.T) {
	dice := rand.New(rand.NewSource(82))
	lists := small()
	for range 40000 {
		b := mustEncode(t, lists[dice.Intn(len(lists))])
		for range 1 + dice.Intn(3) {
			at := dice.Intn(len(b))
			switch dice.Intn(5) {
			case 0:
				b[at] = byte(dice.Intn(256))
			case 1:
				b[at] += byte(dice.Intn(3) - 1)
			case 2:
				b = append(slices.Delete(b, at, at+1), 0)
			case 3:
				b = slices.Insert(b, at, byte(dice.Intn(4)))
			case 4:
				other := dice.Intn(len(b))
				b[at], b[other] = b[other], b[at]
			}
		}
		holdDecode(t, b)
	}
}

// P8.2: all short bytes, and longer ones out of few.
func TestDecodeShortBytes(t *testing.T) {
	for a := range 256 {
		holdDecode(t, []byte{byte(a)})
		for b := range 256 {
			holdDecode(t, []byte{byte(a), byte(b)})
		}
	}
	few := []byte{0, 1, 2, 5, 6}
	taken := 0
	for number := range 5 * 5 * 5 * 5 * 5 * 5 * 5 {
		var tail []byte
		for range 7 {
			tail = append(tail, few[number%5])
			number /= 5
		}
		for _, head := range []string{"", "\x01\x01", "\x01\x01\x00\x05", "\x01\x02\x00"} {
			if holdDecode(t, append([]byte(head), tail...)) {
				taken++
			}
		}
	}
	if taken == 0 {
		t.Error("none of the short bytes was taken")
	}
}

// P8.2: each thing that a block tells changed alone, in every block; sizes and t are as the rest asks.
func TestDecodeBlocksToldWrongly(t *testing.T) {
	list := counted(40, 5)
	for k := range toldOf(list) {
		try := func(what string, change func(x *told)) {
			t.Helper()
			blocks := toldOf(list)
			change(&blocks[k])
			blocks[k].size = len(blocks[k].body())
			refused(t, fmt.Sprint(what, " in block ", k), toldBytes(len(list), totalOf(list), blocks))
		}
		docs := len(toldOf(list)[k].gaps)
		try("a last document too small", func(x *told) { x.gap-- })
		try("a last document too great", func(x *told) { x.gap++ })
		try("a last document far too great", func(x *told) { x.gap = 2147483646 })
		try("a last document beyond", func(x *told) { x.gap = math.MaxInt })
		try("a document too few", func(x *told) { x.gaps = x.gaps[1:] })
		try("a document too many", func(x *told) { x.gaps = append(x.gaps, 0) })
		try("no document", func(x *told) { x.gaps = nil })
		try("a number of positions too few", func(x *told) { x.more = x.more[1:] })
		try("a number of positions too many", func(x *told) { x.more = append(x.more, 0) })
		try("no number of positions", func(x *told) { x.more = nil })
		try("a position too few", func(x *told) { x.pos[docs-1] = x.pos[docs-1][1:] })
		try("a position too many", func(x *told) { x.pos[0] = append(x.pos[0], 0) })
		for i := range docs {
			try("a document off", func(x *told) { x.gaps[i]++ })
			try("a document below", func(x *told) { x.gaps[i]-- })
			try("a document far off", func(x *told) { x.gaps[i] = math.MaxInt })
			try("a position told too many", func(x *told) { x.more[i]++ })
			try("very many positions told", func(x *told) { x.more[i] = math.MaxInt })
			try("as many positions told as bytes", func(x *told) { x.more[i] = x.size })
		}
	}
}

// P8.2: sizes that don't fit the blocks, though their sum may.
func TestDecodeWrongSizes(t *testing.T) {
	list := counted(40, 5)
	for k := range 3 {
		for _, by := range []int{-1, 1, -5, 5, 300, 1 << 40} {
			alone := toldOf(list)
			alone[k].size = max(0, alone[k].size+by)
			refused(t, "a wrong size", toldBytes(40, totalOf(list), alone))
			moved := toldOf(list)
			next := (k + 1) % 3
			if moved[k].size+by < 0 || moved[next].size < by {
				continue
			}
			moved[k].size += by
			moved[next].size -= by
			refused(t, "a block's end moved", toldBytes(40, totalOf(list), moved))
		}
	}
	all := toldOf(list)
	all[0].size, all[1].size, all[2].size = all[0].size+all[1].size+all[2].size, 0, 0
	refused(t, "one size for all", toldBytes(40, totalOf(list), all))
	if !holdDecode(t, toldBytes(40, totalOf(list), toldOf(list))) {
		t.Error("blocks with nothing changed are refused")
	}
}

// P8.2: blocks of other numbers of documents than BlockDocs.
func TestDecodeOtherBlocks(t *testing.T) {
	joined := func(a, b told) told {
		x := told{gap: a.gap + 1 + b.gap, gaps: slices.Concat(a.gaps, b.gaps), more: slices.Concat(a.more, b.more), pos: slices.Concat(a.pos, b.pos)}
		x.size = len(x.body())
		return x
	}
	cut := func(x told, at int) []told {
		sum := 0
		for _, gap := range x.gaps[:at] {
			sum += gap + 1
		}
		a := told{gap: sum - 1, gaps: x.gaps[:at], more: x.more[:at], pos: x.pos[:at]}
		b := told{gap: x.gap - sum, gaps: x.gaps[at:], more: x.more[at:], pos: x.pos[at:]}
		a.size, b.size = len(a.body()), len(b.body())
		return []told{a, b}
	}
	list := counted(40, 5)
	total := totalOf(list)
	x := toldOf(list)
	if back := cut(joined(x[0], x[1]), 16); !holdDecode(t, toldBytes(40, total, append(back, x[2]))) {
		t.Fatal("blocks with nothing changed are refused")
	}
	refused(t, "two blocks in one", toldBytes(40, total, []told{joined(x[0], x[1]), x[2]}))
	refused(t, "all in one", toldBytes(40, total, []told{joined(joined(x[0], x[1]), x[2])}))
	for at := 1; at < 16; at++ {
		refused(t, "a block cut", toldBytes(40, total, slices.Concat(cut(x[0], at), x[1:])))
		if at < 8 {
			refused(t, "the last block cut", toldBytes(40, total, slices.Concat(x[:2], cut(x[2], at))))
		}
	}
	for at := 1; at < 32; at++ {
		if at != 16 {
			refused(t, "blocks of other sizes", toldBytes(40, total, append(cut(joined(x[0], x[1]), at), x[2])))
		}
	}
	for n := range 60 {
		if n != 40 {
			refused(t, fmt.Sprint("n ", n, " over 40 documents"), toldBytes(n, total, x))
			refused(t, fmt.Sprint("t ", n, " over more positions"), toldBytes(40, n, x))
		}
	}
}

// claims are numbers that no bytes can make good, and such as are no numbers.
func claims() []string {
	return []string{
		"\xff\x7f", "\xff\xff\x7f", "\xff\xff\xff\xff\x07", "\x80\x80\x80\x80\x08", "\xff\xff\xff\xff\xff\xff\xff\xff\x7f",
		"\x80\x80\x80\x80\x80\x80\x80\x80\x80\x01", "\xff\xff\xff\xff\xff\xff\xff\xff\xff\x01", "\xff\xff\xff\xff\xff\xff\xff\xff\xff\x02", "\xff\xff\xff\xff\xff\xff\xff\xff\xff\xff\x01",
	}
}

// P8.2: n, t, a size, a distance or a length that is merely claimed takes neither room nor time.
func TestDecodeGreatClaims(t *testing.T) {
	widest := "\x01\x3f\xff\xff\xff\xff\xff\xff\xff\x7f"
	for _, claim := range claims() {
		for _, behind := range []string{"", "\x00", "\x01\x00\x05\x01\x00\x01\x00\x00", strings.Repeat("\x00", 1000), strings.Repeat("\x7f", 2000)} {
			for _, ahead := range []string{
				"", "\x01", "\x00", "\x01\x01", "\x01\x01\x00", "\x01\x01\x00\x05", "\x01\x01\x00\x05\x01\x00", "\x01\x02\x00\x05\x01\x00\x01\x00",
				"\x01\x01\x00" + string(rune(len(behind)%100)), claim, claim + claim,
			} {
				refused(t, "a great claim", []byte(ahead+claim+behind))
			}
		}
	}
	for _, body := range []string{widest + "\x01\x00\x00", "\x01\x00" + widest + "\x00", widest + widest + "\x00"} {
		refused(t, "great packed numbers", append([]byte{1, 1, 0, byte(len(body))}, body...))
		refused(t, "great packed numbers", append([]byte{1, 1, 0xfe, 0xff, 0xff, 0xff, 0x07, byte(len(body))}, body...))
	}
}

// P8.2: how much room a refusal takes hangs on the bytes that are there.
func TestDecodeTakesLittleRoom(t *testing.T) {
	behind := strings.Repeat("\x00", 2000)
	var all []string
	for _, claim := range claims() {
		for _, ahead := range []string{"", "\x01", "\x01\x01", "\x01\x01\x00", "\x01\x01\x00\x05", "\x01\x01\x00\x05\x01\x00", "\x01\x02\x00\x05\x01\x00\x01\x00"} {
			all = append(all, ahead+claim+behind, ahead+claim)
		}
	}
	// So many documents and positions as bytes are left, but nothing behind that bears them out.
	all = append(all, "\xd0\x0f\xce\x0f"+behind, "\xce\x0f\xcc\x0f"+behind[:1998])
	for _, text := range all {
		b := []byte(text)
		for what, call := range map[string]func(){
			"Decode": func() { _, _ = posts.Decode(b) },
			"Open":   func() { _, _ = posts.Open(b) },
		} {
			var before, after runtime.MemStats
			runtime.ReadMemStats(&before)
			call()
			runtime.ReadMemStats(&after)
			if took := after.TotalAlloc - before.TotalAlloc; took > 1<<20 {
				t.Errorf("%s of %d bytes % .12x takes %d bytes", what, len(b), b, took)
			}
		}
	}
}

// P8.2, rule 5: the bytes stay as they are, spare room included, and no two answers share anything.
func TestDecodeSharesNothing(t *testing.T) {
	for name, list := range named() {
		b := mustEncode(t, list)
		room := append(bytes.Clone(b), 1, 2, 3)
		first, err := posts.Decode(room[:len(b)])
		if err != nil {
			t.Fatal(err)
		}
		second, _ := posts.Decode(room[:len(b)])
		if !bytes.Equal(room, append(bytes.Clone(b), 1, 2, 3)) {
			t.Fatalf("Decode changed the bytes of %s", name)
		}
		wipeBytes(room)
		wipeList(second)
		if !alike(first, list) {
			t.Fatalf("the postings of %s see what was written elsewhere", name)
		}
		holdApart(t, first)
	}
}

// holdApart writes over each posting's positions, spare room included, and asks the others.
func holdApart(t testing.TB, list []api.Posting) {
	t.Helper()
	want := kept(list)
	for i := range list {
		pos := list[i].Pos
		room := pos[:cap(pos)]
		for k := range room {
			room[k] = -i - 1
		}
		for k, p := range list[i+1:] {
			if !slices.Equal(p.Pos, want[i+1+k].Pos) {
				t.Fatalf("the postings %d and %d share positions", i, i+1+k)
			}
		}
		if !alike(list[:i], want[:i]) {
			t.Fatalf("the posting %d shares positions with one ahead of it", i)
		}
		list[i].Pos = want[i].Pos
	}
}

func FuzzDecode(f *testing.F) {
	for _, list := range small() {
		f.Add(mustEncode(f, list))
	}
	f.Fuzz(func(t *testing.T, b []byte) {
		holdDecode(t, b)
	})
}
