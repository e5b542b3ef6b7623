package docset_test

import (
	"bytes"
	"encoding/hex"
	"math/rand"
	"slices"
	"strings"
	"testing"

	"concord/api"
	"concord/docset"
)

func unhex(s string) []byte {
	b, err := hex.DecodeString(strings.ReplaceAll(s, " ", ""))
	if err != nil {
		panic(err)
	}
	return b
}

// but is the model of n numbers that are all members but those.
func but(n int, list ...int) model {
	return modelOf(n, list...).not()
}

// from are count numbers from first on.
func from(first, count int) []int {
	var list []int
	for i := range count {
		list = append(list, first+i)
	}
	return list
}

// checkDecode holds Decode against the model, and what it takes against its bytes.
func checkDecode(t *testing.T, b []byte) {
	t.Helper()
	want, wrong := modelDecode(b)
	s, err := docset.Decode(b)
	if err != wrong || (s == nil) != (err != nil) {
		t.Fatalf("Decode(% x): %v, %v, want %v", b, s, err, wrong)
	}
	if err != nil {
		return
	}
	if s.Len() != len(want) || !slices.Equal(s.Members(), want.members()) {
		t.Fatalf("Decode(% x): %v of %d, want %v of %d", b, s.Members(), s.Len(), want.members(), len(want))
	}
	if back := s.Encode(); !bytes.Equal(back, b) {
		t.Fatalf("Decode(% x) has the form % x", b, back)
	}
}

// thereAndBack encodes a model's set, and decodes it again.
func thereAndBack(t *testing.T, m model) {
	t.Helper()
	s := ofModel(t, m)
	b := s.Encode()
	if !bytes.Equal(b, m.encode()) {
		t.Fatalf("size %d, members %v: Encode % x, want % x", len(m), m.members(), b, m.encode())
	}
	back, err := docset.Decode(b)
	if err != nil || !back.Equal(s) || !s.Equal(back) {
		t.Fatalf("size %d, members %v: Decode of its form: %v", len(m), m.members(), err)
	}
	checkDecode(t, b)
}

// P3.2
func TestForms(t *testing.T) {
	rows := []struct {
		name string
		m    model
		form string
	}{
		{"example 2", modelOf(10, 7, 2, 2, 3), "0a 04 8c 00"},
		{"example 3", modelOf(0), "00"},
		{"example 4", modelOf(300), "ac 02 00 00"},
		{"example 4, all", but(300), "ac 02 01 01"},
		{"example 4, one", modelOf(300, 256), "ac 02 00 02 00 00"},
		{"example 5, bits", modelOf(8, 5), "08 04 20"},
		{"example 5, list", modelOf(9, 5), "09 02 00 05"},
		{"example 6", but(256, 0, 255), "80 02 03 01 00 ff"},
		{"one place, none", modelOf(1), "01 00"},
		{"one place, all", but(1), "01 01"},
		{"two places, the first", modelOf(2, 0), "02 04 01"},
		{"two places, the second", modelOf(2, 1), "02 04 02"},
		{"holes in a short block", but(17, 16), "11 03 00 10"},
		{"of one hole and bits in 9 the holes", but(9, 0), "09 03 00 00"},
		{"two members in 16: bits are shorter", modelOf(16, 3, 9), "10 04 08 02"},
		{"two members in 17: list and bits have four", modelOf(17, 3, 16), "11 02 01 03 10"},
		{"half of a whole block", modelOf(256, from(0, 128)...), "80 02 04" + strings.Repeat("ff", 16) + strings.Repeat("00", 16)},
		{"31 members of a whole block: list and bits have 33", modelOf(256, from(225, 31)...), "80 02 02 1e e1e2e3e4e5e6e7e8e9eaebecedeeeff0f1f2f3f4f5f6f7f8f9fafbfcfdfeff"},
		{"32 members of a whole block: bits", modelOf(256, from(224, 32)...), "80 02 04" + strings.Repeat("00", 28) + "ffffffff"},
		{"31 holes of a whole block: holes and bits have 33", but(256, from(1, 31)...), "80 02 03 1e 0102030405060708090a0b0c0d0e0f101112131415161718191a1b1c1d1e1f"},
		{"32 holes of a whole block: bits", but(256, from(0, 32)...), "80 02 04 00000000" + strings.Repeat("ff", 28)},
		{"the last place of a block and the first of the next", modelOf(257, 255, 256), "81 02 02 00 ff 01"},
		{"255 places, the last", modelOf(255, 254), "ff 01 02 00 fe"},
		{"all forms, one behind the other", slices.Concat(modelOf(256), but(256), modelOf(256, 7), but(256, 9), modelOf(256, from(8, 40)...), modelOf(3, 1)),
			"83 0a 00 01 02 00 07 03 00 09 04 00 ffffffffff" + strings.Repeat("00", 26) + "04 02"},
	}
	for _, x := range rows {
		form := unhex(x.form)
		if got := ofModel(t, x.m).Encode(); !bytes.Equal(got, form) {
			t.Errorf("%s: Encode % x, want % x", x.name, got, form)
		}
		s, err := docset.Decode(form)
		if err != nil || s.Len() != len(x.m) || !slices.Equal(s.Members(), x.m.members()) {
			t.Errorf("%s: Decode: %v", x.name, err)
		}
		thereAndBack(t, x.m)
	}
}

// P3.2
func TestDecodeRefuses(t *testing.T) {
	rows := []struct {
		name string
		form string
	}{
		{"nothing", ""},
		{"example 7: bits are shorter than a list", "08 02 00 05"},
		{"example 7: a further byte", "00 00"},
		{"example 7: a block is missing", "01"},
		{"example 7: none is shorter than bits", "08 04 00"},
		{"example 7: a bit that stands for no number", "03 04 08"},
		{"example 7: 0 isn't the shortest", "80 00"},
		{"a size that isn't the shortest", "81 00 00"},
		{"a size that isn't the shortest, with its blocks", "ac 82 00 00 00"},
		{"a size that ends early", "80"},
		{"a size that ends early, later", "80 80"},
		{"the size 1048577 without blocks", "81 80 40"},
		{"the size 1048577", "81 80 40" + strings.Repeat("00", 4097)},
		{"the size 2^21", "80 80 80 01" + strings.Repeat("00", 8192)},
		{"the size 2^63", "80 80 80 80 80 80 80 80 80 01"},
		{"a size above 64 bits", "80 80 80 80 80 80 80 80 80 02"},
		{"a size of eleven bytes", "80 80 80 80 80 80 80 80 80 80 01"},
		{"the greatest size without blocks", "80 80 40"},
		{"the greatest size, a block missing", "80 80 40" + strings.Repeat("00", 4095)},
		{"the greatest size, a block more", "80 80 40" + strings.Repeat("00", 4097)},
		{"no such tag", "01 05"},
		{"no such tag either", "01 ff"},
		{"no such tag in a whole block", "80 02 05"},
		{"all is shorter than bits", "08 04 ff"},
		{"all is shorter than a list", "01 02 00 00"},
		{"none is shorter than holes", "01 03 00 00"},
		{"a list of all", "80 02 02 ff" + hex.EncodeToString(wholeBlock())},
		{"holes of all", "80 02 03 ff" + hex.EncodeToString(wholeBlock())},
		{"a list that ends ahead of its number", "09 02"},
		{"a list that ends early", "09 02 00"},
		{"a list with an element more", "09 02 00 05 06"},
		{"a list with an element less", "14 02 01 05"},
		{"a list that falls", "14 02 01 06 05"},
		{"a list with a number twice", "14 02 01 05 05"},
		{"a list with a number that the block doesn't hold", "14 02 01 05 14"},
		{"a list with a number far outside", "14 02 01 05 ff"},
		{"a list of one that isn't in the block", "09 02 00 09"},
		{"a list where bits are as long, but lower", "09 04 20 00"},
		{"a list longer than any", "80 02 02 1f" + hex.EncodeToString(wholeBlock()[:32])},
		{"holes longer than any", "80 02 03 1f" + hex.EncodeToString(wholeBlock()[:32])},
		{"a list that claims more than there is room for", "80 02 02 ff" + hex.EncodeToString(wholeBlock()[:31])},
		{"holes that fall", "14 03 01 06 05"},
		{"holes with a number twice", "14 03 01 05 05"},
		{"holes with a number that the block doesn't hold", "14 03 01 05 14"},
		{"holes of one that isn't in the block", "09 03 00 09"},
		{"holes where bits are shorter", "08 03 00 05"},
		{"holes that end early", "09 03 00"},
		{"bits where a list is shorter", "18 04 01 00 00"},
		{"bits where holes are shorter", "18 04 fe ff ff"},
		{"bits that end early", "10 04 0f"},
		{"bits with a byte more", "10 04 0f 0f 00"},
		{"bits that stand for no number, in the last byte", "0a 04 8c 04"},
		{"all with a byte more", "08 01 00"},
		{"a second block is missing", "ac 02 00"},
		{"a second block is one too many", "80 02 00 00"},
		{"the second block is wrong", "ac 02 00 02 00 2c"},
		{"the first block has one less", "ac 02 02 01 05 00"},
	}
	for _, x := range rows {
		b := unhex(x.form)
		if s, err := docset.Decode(b); s != nil || err != api.ErrCorrupt {
			t.Errorf("%s: Decode: %v, %v", x.name, s, err)
		}
		checkDecode(t, b)
	}
	if s, err := docset.Decode(nil); s != nil || err != api.ErrCorrupt {
		t.Errorf("nil: Decode: %v, %v", s, err)
	}
}

// wholeBlock are the 256 numbers of a block.
func wholeBlock() []byte {
	b := make([]byte, 256)
	for i := range b {
		b[i] = byte(i)
	}
	return b
}

// P3.2: every set of few places.
func TestThereAndBackOverSmallSets(t *testing.T) {
	for n := range 13 {
		for pattern := range 1 << n {
			thereAndBack(t, subset(n, pattern))
		}
	}
}

// chosen is a block of w numbers with count members, as it comes.
func chosen(dice *rand.Rand, w, count int) model {
	return modelOf(w, dice.Perm(w)[:count]...)
}

// P3.2: blocks of every width with every number of members, alone and behind whole ones; every tag is seen in a whole block and in a last, shorter one.
func TestThereAndBackAtEveryCount(t *testing.T) {
	dice := rand.New(rand.NewSource(51))
	var whole, short [5]int
	for w := 1; w <= 256; w++ {
		for count := 0; count <= w; count++ {
			last := chosen(dice, w, count)
			tag := bestOf(formsOf(last))[0]
			if w == 256 {
				whole[tag]++
			} else {
				short[tag]++
			}
			thereAndBack(t, last)
			if count%5 == w%5 {
				first := chosen(dice, 256, dice.Intn(257))
				thereAndBack(t, slices.Concat(first, last))
			}
		}
	}
	for tag := range 5 {
		if whole[tag] == 0 || short[tag] == 0 {
			t.Errorf("the tag %d hasn't been seen: %d whole, %d short", tag, whole[tag], short[tag])
		}
	}
}

// P3.2: only the rule's form is taken, of all that a block may have.
func TestOtherFormsAreRefused(t *testing.T) {
	dice := rand.New(rand.NewSource(52))
	for _, w := range []int{1, 2, 3, 7, 8, 9, 16, 17, 24, 25, 44, 64, 65, 128, 255, 256} {
		for count := 0; count <= w; count++ {
			block := chosen(dice, w, count)
			forms := formsOf(block)
			best := bestOf(forms)
			for tag, form := range forms {
				if form == nil {
					continue
				}
				b := append(modelUvarint(w), form...)
				s, err := docset.Decode(b)
				if tag == int(best[0]) {
					if err != nil || !slices.Equal(s.Members(), block.members()) {
						t.Fatalf("Decode(% x): %v", b, err)
					}
				} else if s != nil || err != api.ErrCorrupt {
					t.Fatalf("Decode(% x): %v, %v", b, s, err)
				}
			}
		}
	}
}

// P3.2
func TestDecodeOverAllShortBytes(t *testing.T) {
	checkDecode(t, nil)
	for a := range 256 {
		checkDecode(t, []byte{byte(a)})
		for b := range 256 {
			checkDecode(t, []byte{byte(a), byte(b)})
			for _, c := range []byte{0, 1, 2, 3, 4, 5, 8, 64, 127, 128, 255} {
				checkDecode(t, []byte{byte(a), byte(b), c})
			}
		}
	}
}

// P3.2: few places, and all that may follow, over bytes that mean something.
func TestDecodeOverShortForms(t *testing.T) {
	some := []byte{0, 1, 2, 3, 4, 5, 7, 8, 9, 15, 16, 254, 255}
	for n := range 20 {
		for tag := range byte(6) {
			for _, a := range some {
				for _, b := range some {
					for _, c := range some {
						form := []byte{byte(n), tag, a, b, c}
						for size := range 6 {
							checkDecode(t, form[:size])
						}
					}
				}
			}
		}
	}
}

// someForms are encoded forms with every tag in them.
func someForms(dice *rand.Rand) [][]byte {
	list := [][]byte{
		modelOf(0).encode(),
		modelOf(10, 2, 3, 7).encode(),
		but(256, 0, 255).encode(),
		slices.Concat(modelOf(256), but(256), modelOf(256, 7, 9), but(256, 9, 200), chosen(dice, 256, 100), modelOf(44, 1)).encode(),
		slices.Concat(chosen(dice, 256, 100), but(44, 0, 43)).encode(),
		slices.Concat(but(256, 1), chosen(dice, 250, 31)).encode(),
	}
	for _, n := range []int{1, 255, 257, 600} {
		list = append(list, someMembers(dice, n).encode())
	}
	return list
}

// P3.2: each byte turned to each other one.
func TestDecodeOverTurnedBytes(t *testing.T) {
	dice := rand.New(rand.NewSource(53))
	for _, form := range someForms(dice) {
		for at := range form {
			for c := range 256 {
				b := slices.Clone(form)
				b[at] = byte(c)
				checkDecode(t, b)
			}
		}
	}
}

// P3.2: cut at each place, with a byte more at the end, and with one taken out or put in anywhere.
func TestDecodeOverCutAndLongerBytes(t *testing.T) {
	dice := rand.New(rand.NewSource(54))
	for _, form := range someForms(dice) {
		for at := range form {
			if s, err := docset.Decode(form[:at]); s != nil || err != api.ErrCorrupt {
				t.Fatalf("cut to %d: Decode(% x): %v, %v", at, form[:at], s, err)
			}
			checkDecode(t, slices.Delete(slices.Clone(form), at, at+1))
		}
		for c := range 256 {
			longer := append(slices.Clone(form), byte(c))
			if s, err := docset.Decode(longer); s != nil || err != api.ErrCorrupt {
				t.Fatalf("longer: Decode(% x): %v, %v", longer, s, err)
			}
		}
		for at := range len(form) + 1 {
			for _, c := range []byte{0, 1, 2, 3, 4, 255} {
				checkDecode(t, slices.Insert(slices.Clone(form), at, c))
			}
		}
	}
}

// P3.2: bytes spoilt in several places.
func TestDecodeOverSpoiltBytes(t *testing.T) {
	dice := rand.New(rand.NewSource(55))
	forms := someForms(dice)
	for range 20000 {
		b := slices.Clone(forms[dice.Intn(len(forms))])
		for range 1 + dice.Intn(3) {
			if len(b) == 0 {
				break
			}
			at := dice.Intn(len(b))
			switch dice.Intn(4) {
			case 0:
				b[at] = byte(dice.Intn(256))
			case 1:
				b[at] = byte(dice.Intn(6))
			case 2:
				b = slices.Delete(b, at, at+1)
			case 3:
				b = slices.Insert(b, at, byte(dice.Intn(256)))
			}
		}
		checkDecode(t, b)
	}
}

// P3.2: unlike sets have unlike forms.
func TestFormsAreUnlike(t *testing.T) {
	seen := map[string]bool{}
	for n := range 11 {
		for pattern := range 1 << n {
			form := string(ofModel(t, subset(n, pattern)).Encode())
			if seen[form] {
				t.Fatalf("the form % x stands for two sets", form)
			}
			seen[form] = true
		}
	}
}

// P3.2: the greatest size there and back, with every tag in its last block.
func TestGreatFormsThereAndBack(t *testing.T) {
	dice := rand.New(rand.NewSource(56))
	for _, count := range []int{0, 256, 3, 250, 100} {
		m := someMembers(dice, 1048576-256)
		thereAndBack(t, slices.Concat(m, chosen(dice, 256, count)))
	}
	none := must(t)(docset.New(1048576))
	if form := unhex("80 80 40" + strings.Repeat("00", 4096)); !bytes.Equal(none.Encode(), form) {
		t.Error("the form of none")
	}
	if form := unhex("80 80 40" + strings.Repeat("01", 4096)); !bytes.Equal(none.Not().Encode(), form) {
		t.Error("the form of all")
	}
}

// P3.2: what is handed in isn't changed and isn't kept, and a decoded set may be changed.
func TestDecodeKeepsNothing(t *testing.T) {
	m := slices.Concat(modelOf(256, 7, 9), chosen(rand.New(rand.NewSource(57)), 100, 50))
	room := append(m.encode(), 1, 2, 3, 4, 5, 6, 7, 8)
	was := slices.Clone(room)
	s := must(t)(docset.Decode(room[:len(room)-8]))
	if !bytes.Equal(room, was) {
		t.Error("Decode has written into its bytes")
	}
	for i := range room {
		room[i] = 255
	}
	check(t, s, m)
	s.Add(8)
	s.Remove(7)
	m[8], m[7] = true, false
	check(t, s, m)
}

func FuzzDecode(f *testing.F) {
	for _, form := range someForms(rand.New(rand.NewSource(58))) {
		f.Add(form)
	}
	f.Add(unhex("08 02 00 05"))
	f.Fuzz(func(t *testing.T, b []byte) {
		checkDecode(t, b)
	})
}
