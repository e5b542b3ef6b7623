package dict_test

import (
	"bytes"
	"encoding/hex"
	"fmt"
	"math/rand"
	"slices"
	"strings"
	"testing"

	"concord/api"
	"concord/dict"
)

// holdOpen holds Open against the model, and Build of what it finds against the bytes; it tells whether they were taken.
func holdOpen(t testing.TB, image []byte) bool {
	t.Helper()
	kept := bytes.Clone(image)
	d, err := dict.Open(image)
	if !bytes.Equal(image, kept) {
		t.Fatalf("Open changed % x to % x", kept, image)
	}
	want, ok := modelOpen(image)
	if !ok {
		if err != api.ErrCorrupt || d != nil {
			t.Fatalf("Open of % x answers %v and %v", image, d, err)
		}
		return false
	}
	if err != nil || d == nil {
		t.Fatalf("Open of % x answers %v and %v", image, d, err)
	}
	entries := entriesIn(t, d)
	if !slices.Equal(entries, want) {
		t.Fatalf("Open of % x finds %v, not %v", image, entries, want)
	}
	again, err := dict.Build(entries)
	if err != nil || !bytes.Equal(again, image) {
		t.Fatalf("Open of % x finds %v, and their image is % x and %v", image, entries, again, err)
	}
	return true
}

func refused(t *testing.T, what string, image []byte) {
	t.Helper()
	if d, err := dict.Open(image); err != api.ErrCorrupt || d != nil {
		t.Errorf("Open with %s (% x) answers %v and %v", what, image, d, err)
	}
	holdOpen(t, image)
}

// P6.1, P6.2: the chapter's examples, and their kin.
func TestOpenExamples(t *testing.T) {
	for _, good := range []string{"00", "01080002616201020005", "021000026162010200050201640101058201"} {
		image, _ := hex.DecodeString(good)
		if !holdOpen(t, image) {
			t.Errorf("Open refuses %s", good)
		}
	}
	for what, bad := range map[string]string{
		"no byte":                         "",
		"a further byte":                  "0000",
		"a shared byte at the beginning":  "0108010162000000" + "0000",
		"too little shared":               "02120002616201020005000361626401010582" + "01",
		"a long number of entries":        "8000",
		"a long length":                   "018800" + "0002616201020005",
		"a long shared number":            "0109" + "8000" + "02616201020005",
		"a long key's length":             "0109" + "008200" + "616201020005",
		"a long Docs":                     "0109" + "00026162" + "8100" + "020005",
		"a long Size":                     "0109" + "00026162" + "010200" + "8500",
		"an empty key":                    "0106" + "0000" + "00000000",
		"a length with nothing behind it": "01",
		"no block":                        "0108",
		"a block that isn't counted":      "0008" + "0002616201020005",
		"two lengths for one block":       "010800" + "0002616201020005",
		"a missing length":                "01" + "0002616201020005",
		"a missing byte":                  "0107" + "00026162010200",
	} {
		image, err := hex.DecodeString(bad)
		if err != nil {
			t.Fatal(err)
		}
		refused(t, what, image)
	}
}

// P6.2: over every list, what Build made is opened, and tells the entries.
func TestOpenWhatBuildMade(t *testing.T) {
	for name, entries := range named() {
		image := mustBuild(t, entries)
		if !holdOpen(t, image) {
			t.Fatalf("Open refuses the image of %s", name)
		}
		d, err := dict.Open(image)
		if err != nil || !slices.Equal(entriesIn(t, d), entries) {
			t.Fatalf("Open of the image of %s finds other entries", name)
		}
	}
}

// small are images on which every change is tried.
func small() [][]api.Entry {
	lists := [][]api.Entry{
		nil,
		{{Key: "ab", Docs: 1, Total: 2, At: 0, Size: 5}, {Key: "abd", Docs: 1, Total: 1, At: 5, Size: 130}},
		{{Key: "\x00", Docs: 2147483647, Total: 128, At: 300}, {Key: "\x00\xff"}, {Key: "\xff\x00", Size: 127}},
		entriesOf(strings.Repeat("k", 65), strings.Repeat("k", 64), "k"),
		entriesOf(allKeys(4, "ab")...),
	}
	for _, n := range []int{1, 15, 16, 17, 32, 33} {
		var keys []string
		for i := range n {
			keys = append(keys, string([]byte{'k', byte(i / 16), byte(i)}))
		}
		lists = append(lists, entriesOf(keys...))
	}
	return lists
}

// P6.2: every image with one byte changed, dropped or put in.
func TestOpenOneByteOff(t *testing.T) {
	for _, entries := range small() {
		t.Run(fmt.Sprint(len(entries), " entries"), func(t *testing.T) {
			t.Parallel()
			holdOneByteOff(t, mustBuild(t, entries))
		})
	}
}

func holdOneByteOff(t *testing.T, image []byte) {
	for i := range image {
		other := bytes.Clone(image)
		for v := range 256 {
			other[i] = byte(v)
			holdOpen(t, other)
		}
		holdOpen(t, slices.Delete(bytes.Clone(image), i, i+1))
	}
	for i := range len(image) + 1 {
		for v := range 256 {
			holdOpen(t, slices.Insert(bytes.Clone(image), i, byte(v)))
		}
	}
}

// P6.2: every image's beginnings are no image, and neither is it with bytes behind or ahead of it.
func TestOpenCutAndLengthened(t *testing.T) {
	for name, entries := range named() {
		image := mustBuild(t, entries)
		for i := range image {
			if d, err := dict.Open(image[:i]); err != api.ErrCorrupt || d != nil {
				t.Fatalf("Open of the first %d bytes of %s answers %v", i, name, err)
			}
		}
		for _, more := range []string{"\x00", "\x01", "\xff", "\x00\x01a\x00\x00\x00\x00"} {
			refused(t, "bytes behind "+name, append(bytes.Clone(image), more...))
		}
		refused(t, "the image of "+name+" twice", append(bytes.Clone(image), image...))
	}
}

// P6.2: bytes changed in several places at once, and pieces moved.
func TestOpenManyBytesOff(t *testing.T) {
	dice := rand.New(rand.NewSource(62))
	lists := small()
	for range 60000 {
		image := mustBuild(t, lists[dice.Intn(len(lists))])
		for range 1 + dice.Intn(3) {
			at := dice.Intn(len(image))
			switch dice.Intn(5) {
			case 0:
				image[at] = byte(dice.Intn(256))
			case 1:
				image[at] += byte(dice.Intn(3) - 1)
			case 2:
				image = slices.Delete(image, at, at+1)
			case 3:
				image = slices.Insert(image, at, byte(dice.Intn(4)))
			case 4:
				other := dice.Intn(len(image))
				image[at], image[other] = image[other], image[at]
			}
			if len(image) == 0 {
				image = []byte{0}
			}
		}
		holdOpen(t, image)
	}
}

// P6.2: all short texts, and longer ones out of few bytes.
func TestOpenShortBytes(t *testing.T) {
	for a := range 256 {
		holdOpen(t, []byte{byte(a)})
		for b := range 256 {
			holdOpen(t, []byte{byte(a), byte(b)})
		}
	}
	taken := 0
	for _, tail := range allKeys(5, "\x00\x01\x02\x07\x80a") {
		for _, head := range []string{"", "\x01\x07\x00\x01", "\x01\x08\x00\x02"} {
			if holdOpen(t, []byte(head+tail)) {
				taken++
			}
		}
	}
	if taken == 0 {
		t.Error("none of the short images was taken")
	}
}

// P6.2: each number of an image in more bytes than it needs, with block lengths that fit.
func TestOpenLongNumbers(t *testing.T) {
	entries := counted(17)
	for i, block := range toldOf(entries) {
		for k, x := range block {
			for _, number := range []int{0, 1, 3, 4, 5, 6} {
				p := pieces{modelUvarint(x.shared), modelUvarint(len(x.rest)), []byte(x.rest)}
				for _, v := range x.nums {
					p.number(v)
				}
				last := len(p[number]) - 1
				p[number] = append(p[number][:last:last], p[number][last]|128, 0)
				refused(t, fmt.Sprint("the number ", number, " of the entry ", k, " of the block ", i, " too long"), spliced(entries, i, k, bytes.Join(p, nil)))
			}
			if !holdOpen(t, spliced(entries, i, k, x.bytes())) {
				t.Fatal("an image with nothing changed is refused")
			}
		}
	}
}

// spliced is the image of the entries with other bytes for the entry number k of the block number i; the lengths fit.
func spliced(entries []api.Entry, i, k int, instead []byte) []byte {
	n := modelUvarint(len(entries))
	var lengths, bodies []byte
	for j, block := range toldOf(entries) {
		var body []byte
		for m, x := range block {
			if j == i && m == k {
				body = append(body, instead...)
			} else {
				body = append(body, x.bytes()...)
			}
		}
		lengths = append(lengths, modelUvarint(len(body))...)
		bodies = append(bodies, body...)
	}
	return bytes.Join([][]byte{n, lengths, bodies}, nil)
}

// P6.2: each rule of the entries broken alone, in every place; all else fits.
func TestOpenEntriesToldWrongly(t *testing.T) {
	var keys []string
	for i := range 40 {
		keys = append(keys, fmt.Sprintf("aa%02d", i))
	}
	entries := entriesOf(keys...)
	for i, block := range toldOf(entries) {
		for k, x := range block {
			at := 16*i + k
			key := entries[at].Key
			where := fmt.Sprint(" at ", at)
			try := func(what string, y told) {
				t.Helper()
				refused(t, what+where, spliced(entries, i, k, y.bytes()))
			}
			for less := range x.shared {
				try("less shared", told{less, key[less:], x.nums})
			}
			if k == 0 {
				for more := 1; more <= 3; more++ {
					try("bytes shared at the beginning", told{more, key[more:], x.nums})
				}
			}
			try("more shared than there is", told{5, "b", x.nums})
			try("an empty key", told{0, "", x.nums})
			try("nothing that follows", told{x.shared, "", x.nums})
			for number := range x.nums {
				y := x
				y.nums[number] = 2147483648
				try("a number above the limit", y)
				y.nums[number] = 1 << 40
				try("a number far above the limit", y)
			}
			try("a key of 66 bytes", told{x.shared, x.rest + strings.Repeat("x", 66-len(key)), x.nums})
			if !holdOpen(t, spliced(entries, i, k, told{x.shared, x.rest + strings.Repeat("x", 65-len(key)), x.nums}.bytes())) && k == 15 {
				t.Error("a key of 65 bytes is refused" + where)
			}
		}
	}
}

// P6.2: keys that don't rise, told as if they did, in a block and from block to block.
func TestOpenOrder(t *testing.T) {
	rising := counted(40)
	for i := 1; i < len(rising); i++ {
		same := slices.Clone(rising)
		same[i].Key = same[i-1].Key
		swapped := slices.Clone(rising)
		swapped[i-1], swapped[i] = swapped[i], swapped[i-1]
		head := slices.Clone(rising)
		head[i].Key = head[i-1].Key[:6]
		for _, list := range [][]api.Entry{same, swapped, head} {
			refused(t, fmt.Sprint("keys that don't rise at ", i), modelImage(list))
		}
	}
	for _, rows := range [][]told{
		{{rest: "b"}, {rest: "a"}},
		{{rest: "b"}, {shared: 1}},
		{{rest: "b"}, {rest: "b"}},
		{{rest: "bb"}, {shared: 1, rest: "a"}},
		{{rest: "bb"}, {shared: 1, rest: "b"}},
		{{rest: "bb"}, {shared: 1}},
		{{rest: "\xff"}, {rest: "\x00"}},
		{{rest: "\x80"}, {rest: "\x7f\xff"}},
	} {
		refused(t, fmt.Sprintf("the entries %v", rows), toldImage([][]told{rows}))
	}
	if !holdOpen(t, toldImage([][]told{{{rest: "bb"}, {shared: 1, rest: "c"}}})) {
		t.Error("keys that rise are refused")
	}
}

// P6.2: lengths that don't fit the blocks, though their sum may.
func TestOpenWrongLengths(t *testing.T) {
	entries := counted(33)
	var bodies []byte
	var lengths []int
	for _, block := range toldOf(entries) {
		begin := len(bodies)
		for _, x := range block {
			bodies = append(bodies, x.bytes()...)
		}
		lengths = append(lengths, len(bodies)-begin)
	}
	imageWith := func(lengths []int) []byte {
		var p pieces
		p.number(33)
		for _, length := range lengths {
			p.number(length)
		}
		return append(bytes.Join(p, nil), bodies...)
	}
	if !holdOpen(t, imageWith(lengths)) {
		t.Fatal("an image with nothing changed is refused")
	}
	for i := range lengths {
		for _, by := range []int{-1, 1, -7, 7, 1000, 1 << 40, -lengths[i]} {
			alone := slices.Clone(lengths)
			alone[i] += by
			refused(t, "a wrong length", imageWith(alone))
			moved := slices.Clone(alone)
			if next := (i + 1) % len(lengths); moved[next] >= by {
				moved[next] -= by
				refused(t, "a block's end moved", imageWith(moved))
			}
		}
		refused(t, "a missing length", imageWith(slices.Delete(slices.Clone(lengths), i, i+1)))
		refused(t, "a length too many", imageWith(slices.Insert(slices.Clone(lengths), i, 0)))
	}
	refused(t, "a byte behind each block", bytes.Join([][]byte{{1, 8}, told{rest: "a"}.bytes(), {0}}, nil))
}

// P6.2: blocks of other numbers of entries than BlockKeys.
func TestOpenOtherBlocks(t *testing.T) {
	entries := counted(33)
	flat := slices.Concat(toldOf(entries)...)
	refused(t, "one block for all", toldImage([][]told{flat}))
	for _, size := range []int{1, 8, 15, 17, 32} {
		refused(t, fmt.Sprint("blocks of ", size), toldImage(slices.Collect(slices.Chunk(flat, size))))
	}
	refused(t, "an empty block behind", toldImage(append(toldOf(counted(16)), nil)))
	refused(t, "an empty block ahead", toldImage(append([][]told{nil}, toldOf(counted(16))...)))
	if !holdOpen(t, toldImage(toldOf(entries))) {
		t.Error("blocks of 16 are refused")
	}
}

// P6.1: a number of entries or a length that is merely claimed takes neither room nor time.
func TestOpenGreatClaims(t *testing.T) {
	for _, claim := range []string{"7f", "ff7f", "ffffffff07", "8080808008", "ffffffffffffffff7f", "80808080808080808001", "ffffffffffffffffff01", "ffffffffffffffffff02", "ffffffffffffffffffff01"} {
		number, err := hex.DecodeString(claim)
		if err != nil {
			t.Fatal(err)
		}
		for _, behind := range []string{"", "\x00", "\x07\x00\x01a\x00\x00\x00\x00", strings.Repeat("\x00", 1000), strings.Repeat("\x7f", 100000)} {
			refused(t, "a great number of entries", append(bytes.Clone(number), behind...))
			refused(t, "a great length", slices.Concat([]byte{1}, number, []byte(behind)))
			refused(t, "a great shared number", slices.Concat([]byte{1, 7}, number, []byte(behind)))
			refused(t, "a great key", slices.Concat([]byte{1, 7, 0}, number, []byte(behind)))
		}
	}
}

// P6.1: a Dict doesn't see its image written over.
func TestOpenKeepsACopy(t *testing.T) {
	for name, entries := range named() {
		image := mustBuild(t, entries)
		d, err := dict.Open(image)
		if err != nil {
			t.Fatal(err)
		}
		seq := d.Walk(0)
		wipe(image)
		if !slices.Equal(entriesIn(t, d), entries) {
			t.Fatalf("the Dict of %s sees its image written over", name)
		}
		at := 0
		for i, e := range seq {
			if i != at || e != entries[i] {
				t.Fatalf("the Walk of %s sees the image written over", name)
			}
			at++
		}
		for i, e := range entries {
			if k, ok := d.Find(e.Key); k != i || !ok {
				t.Fatalf("the Find of %s sees the image written over", name)
			}
		}
	}
}

// P6.1: two Dicts of one image are alike, and apart.
func TestOpenTwice(t *testing.T) {
	entries := counted(40)
	image := mustBuild(t, entries)
	first, err1 := dict.Open(image)
	second, err2 := dict.Open(image)
	if err1 != nil || err2 != nil {
		t.Fatal(err1, err2)
	}
	if !slices.Equal(entriesIn(t, first), entriesIn(t, second)) {
		t.Error("two Dicts of one image are unlike")
	}
}

func FuzzOpen(f *testing.F) {
	for _, entries := range small() {
		f.Add(mustBuild(f, entries))
	}
	f.Fuzz(func(t *testing.T, image []byte) {
		holdOpen(t, image)
	})
}
