package codec_test

import (
	"bytes"
	"encoding/hex"
	"math"
	"slices"
	"strings"
	"testing"

	"concord/api"
	"concord/codec"
)

// put is a call of a Writer with the form that it must put behind.
type put struct {
	name string
	call func(w *codec.Writer) error
	want string
}

func plain(call func(w *codec.Writer)) func(w *codec.Writer) error {
	return func(w *codec.Writer) error {
		call(w)
		return nil
	}
}

func rising(list ...int) func(w *codec.Writer) error {
	return func(w *codec.Writer) error { return w.Rising(list) }
}

func packed(list ...int) func(w *codec.Writer) error {
	return func(w *codec.Writer) error { return w.Packed(list) }
}

func uvarint(v uint64) func(w *codec.Writer) error {
	return plain(func(w *codec.Writer) { w.Uvarint(v) })
}

func varint(v int64) func(w *codec.Writer) error {
	return plain(func(w *codec.Writer) { w.Varint(v) })
}

func text(s string) func(w *codec.Writer) error {
	return plain(func(w *codec.Writer) { w.Text(s) })
}

func puts() []put {
	long := strings.Repeat("z", 130)
	return []put{
		{"Byte 0", plain(func(w *codec.Writer) { w.Byte(0) }), "00"},
		{"Byte 255", plain(func(w *codec.Writer) { w.Byte(255) }), "ff"},
		{"Uvarint 0", uvarint(0), "00"},
		{"Uvarint 127", uvarint(127), "7f"},
		{"Uvarint 128", uvarint(128), "8001"},
		{"Uvarint 300", uvarint(300), "ac02"},
		{"Uvarint 16383", uvarint(16383), "ff7f"},
		{"Uvarint 16384", uvarint(16384), "808001"},
		{"Uvarint 2^63-1", uvarint(math.MaxInt64), "ffffffffffffffff7f"},
		{"Uvarint 2^63", uvarint(1 << 63), "80808080808080808001"},
		{"Uvarint 2^64-1", uvarint(math.MaxUint64), "ffffffffffffffffff01"},
		{"Varint 0", varint(0), "00"},
		{"Varint -1", varint(-1), "01"},
		{"Varint 1", varint(1), "02"},
		{"Varint -64", varint(-64), "7f"},
		{"Varint 64", varint(64), "8001"},
		{"Varint -65", varint(-65), "8101"},
		{"Varint 2^63-1", varint(math.MaxInt64), "feffffffffffffffff01"},
		{"Varint -2^63", varint(math.MinInt64), "ffffffffffffffffff01"},
		{"Word32 258", plain(func(w *codec.Writer) { w.Word32(258) }), "02010000"},
		{"Word32 most", plain(func(w *codec.Writer) { w.Word32(0xfedcba98) }), "98badcfe"},
		{"Word64 258", plain(func(w *codec.Writer) { w.Word64(258) }), "0201000000000000"},
		{"Word64 most", plain(func(w *codec.Writer) { w.Word64(0xfedcba9876543210) }), "1032547698badcfe"},
		{"Raw none", plain(func(w *codec.Writer) { w.Raw(nil) }), ""},
		{"Raw some", plain(func(w *codec.Writer) { w.Raw([]byte{0, 128, 255}) }), "0080ff"},
		{"Text none", text(""), "00"},
		{"Text ab", text("ab"), "026162"},
		{"Text not UTF-8", text("\xff\x00"), "02ff00"},
		{"Text long", text(long), "8201" + hex.EncodeToString([]byte(long))},
		{"Rising none", rising(), "00"},
		{"Rising nought", rising(0), "0100"},
		{"Rising 3 4 10", rising(3, 4, 10), "03030005"},
		{"Rising 0 1 2", rising(0, 1, 2), "03000000"},
		{"Rising 0 300", rising(0, 300), "0200ab02"},
		{"Rising 2^63-1", rising(math.MaxInt), "01ffffffffffffffff7f"},
		{"Rising to 2^63-1", rising(0, math.MaxInt), "0200feffffffffffffff7f"},
		{"Rising 2^63-2, 2^63-1", rising(math.MaxInt-1, math.MaxInt), "02feffffffffffffff7f00"},
		{"Packed none", packed(), "00"},
		{"Packed nought", packed(0), "0100"},
		{"Packed noughts", packed(0, 0), "0200"},
		{"Packed 1", packed(1), "010101"},
		{"Packed 1 to 5", packed(1, 2, 3, 4, 5), "0503d158"},
		{"Packed falling", packed(5, 0, 5), "03034501"},
		{"Packed width 8", packed(255, 1), "0208ff01"},
		{"Packed width 9", packed(256, 1), "0209000300"},
		{"Packed 2^62", packed(1 << 62), "013f0000000000000040"},
		{"Packed width 63", packed(math.MaxInt, 0, 1), "033fffffffffffffff7f00000000000000400000000000000000"},
		{"Packed full bytes", packed(1, 0, 1, 0, 1, 0, 1, 1), "0801d5"},
		{"Packed a bit more", packed(1, 0, 1, 0, 1, 0, 1, 1, 1), "0901d501"},
	}
}

// P1.2
func TestWriterPutsForms(t *testing.T) {
	for _, p := range puts() {
		w := codec.NewWriter()
		err := p.call(w)
		if got := hex.EncodeToString(w.Bytes()); err != nil || got != p.want || w.Len() != len(p.want)/2 {
			t.Errorf("%s: %s, Len %d, %v, want %s", p.name, got, w.Len(), err, p.want)
		}
	}
}

// P1.2
func TestWriterPutsBehind(t *testing.T) {
	w := codec.NewWriter()
	if w.Len() != 0 || len(w.Bytes()) != 0 {
		t.Fatal("a new Writer holds something")
	}
	want := ""
	for _, p := range puts() {
		if err := p.call(w); err != nil {
			t.Errorf("%s: %v", p.name, err)
		}
		want += p.want
		if got := hex.EncodeToString(w.Bytes()); got != want || w.Len() != len(want)/2 {
			t.Fatalf("behind %s: %s, Len %d, want %s", p.name, got, w.Len(), want)
		}
	}
}

// P1.2
func TestWriterRefuses(t *testing.T) {
	noughts := make([]int, 65537)
	noughtsAndBelow := append(slices.Clone(noughts), -1)
	rows := []struct {
		name string
		call func(w *codec.Writer) error
		want error
	}{
		{"Rising below", rising(-1), api.ErrRange},
		{"Rising least int", rising(math.MinInt), api.ErrRange},
		{"Rising below behind", rising(1, 2, -3), api.ErrRange},
		{"Rising below behind a fall", rising(5, 4, -1), api.ErrRange},
		{"Rising alike", rising(1, 1), api.ErrOrder},
		{"Rising noughts", rising(0, 0), api.ErrOrder},
		{"Rising falls", rising(5, 4), api.ErrOrder},
		{"Rising falls at the end", rising(1, 2, 3, 2), api.ErrOrder},
		{"Rising ends alike", rising(math.MaxInt, math.MaxInt), api.ErrOrder},
		{"Packed below", packed(-1), api.ErrRange},
		{"Packed least int", packed(math.MinInt), api.ErrRange},
		{"Packed below behind", packed(3, 4, -1), api.ErrRange},
		{"Packed noughts", packed(noughts...), api.ErrLimit},
		{"Packed noughts and below", packed(noughtsAndBelow...), api.ErrRange},
	}
	for _, x := range rows {
		for _, held := range []string{"", "ab"} {
			w := codec.NewWriter()
			w.Raw([]byte(held))
			if err := x.call(w); err != x.want {
				t.Errorf("%s: %v, want %v", x.name, err, x.want)
			}
			if string(w.Bytes()) != held || w.Len() != len(held) {
				t.Errorf("%s has put something: % x", x.name, w.Bytes())
			}
			w.Byte('c')
			if string(w.Bytes()) != held+"c" {
				t.Errorf("behind the refused %s: % x", x.name, w.Bytes())
			}
		}
	}
}

// P1.2
func TestWriterTakesManyNoughts(t *testing.T) {
	w := codec.NewWriter()
	if err := w.Packed(make([]int, 65536)); err != nil || hex.EncodeToString(w.Bytes()) != "80800400" {
		t.Errorf("65536 noughts: %x, %v", w.Bytes(), err)
	}
	w.Reset()
	list := make([]int, 65537)
	list[65536] = 1
	if err := w.Packed(list); err != nil || w.Len() != 3+1+8193 || w.Bytes()[w.Len()-1] != 1 {
		t.Errorf("65536 noughts and 1: %d bytes, %v", w.Len(), err)
	}
}

// P1.2
func TestWriterReset(t *testing.T) {
	w := codec.NewWriter()
	w.Reset()
	if w.Len() != 0 || len(w.Bytes()) != 0 {
		t.Error("a new Writer holds something behind Reset")
	}
	w.Text("some bytes")
	before := w.Bytes()
	w.Reset()
	if w.Len() != 0 || len(w.Bytes()) != 0 {
		t.Error("Reset leaves bytes", w.Bytes())
	}
	w.Byte(1)
	if w.Len() != 1 || !bytes.Equal(w.Bytes(), []byte{1}) {
		t.Error("a Writer behind Reset isn't as a new one", w.Bytes())
	}
	if string(before) != "\nsome bytes" {
		t.Error("an earlier answer shows what was put later", before)
	}
}

// P1.6
func TestWriterKeepsNothingHandedIn(t *testing.T) {
	w := codec.NewWriter()
	room := []byte{1, 2, 3, 4}
	w.Raw(room[:2])
	w.Byte(9)
	if !bytes.Equal(room, []byte{1, 2, 3, 4}) {
		t.Error("Raw or what comes behind it writes into the bytes handed in", room)
	}
	up := []int{3, 4, 10, -5}
	any := []int{5, 4, 3, 2, 1, -5}
	if err := w.Rising(up[:3]); err != nil {
		t.Fatal(err)
	}
	if err := w.Packed(any[:5]); err != nil {
		t.Fatal(err)
	}
	if !slices.Equal(up, []int{3, 4, 10, -5}) || !slices.Equal(any, []int{5, 4, 3, 2, 1, -5}) {
		t.Error("a list handed in has been changed", up, any)
	}
	want := w.Bytes()
	for i := range room {
		room[i] = 77
	}
	for i := range up {
		up[i] = 77
	}
	for i := range any {
		any[i] = 77
	}
	if !bytes.Equal(w.Bytes(), want) {
		t.Errorf("the Writer shows what was written later: % x, want % x", w.Bytes(), want)
	}
}

// P1.6
func TestWriterHandsOutNewMemory(t *testing.T) {
	w := codec.NewWriter()
	w.Raw([]byte{1, 2, 3})
	a, b := w.Bytes(), w.Bytes()
	for i := range a {
		a[i] = 77
	}
	_ = append(a, 78)
	_ = append(a[:0], 79, 80, 81, 82)
	w.Byte(4)
	if !bytes.Equal(w.Bytes(), []byte{1, 2, 3, 4}) {
		t.Error("the Writer shows what was written into an answer", w.Bytes())
	}
	if !bytes.Equal(b, []byte{1, 2, 3}) {
		t.Error("two answers share memory", b)
	}
	// What is put later mustn't be seen in the spare room of an earlier answer, nor the other way round.
	early := w.Bytes()
	w.Byte(5)
	_ = append(early, 6)
	if !bytes.Equal(w.Bytes(), []byte{1, 2, 3, 4, 5}) {
		t.Error("the Writer shows what was put behind an answer", w.Bytes())
	}
	w.Reset()
	w.Raw([]byte{9, 9, 9, 9})
	if !bytes.Equal(early, []byte{1, 2, 3, 4}) {
		t.Error("an answer shows what was put behind Reset", early)
	}
}
