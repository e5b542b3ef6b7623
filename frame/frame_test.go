package frame_test

import (
	"bytes"
	"encoding/hex"
	"math/rand"
	"testing"

	"concord/api"
	"concord/codec"
	"concord/frame"
)

func unhex(s string) []byte {
	b, err := hex.DecodeString(s)
	if err != nil {
		panic(err)
	}
	return b
}

// edgeSizes are the sizes of a body at which its number of bytes takes a byte more.
func edgeSizes() []int {
	return []int{0, 1, 2, 3, 126, 127, 128, 129, 200, 16383, 16384, 16385}
}

// roomy is b with spare room behind it, full of a byte of its own.
func roomy(b []byte) []byte {
	out := append(bytes.Clone(b), bytes.Repeat([]byte{0xA5}, 32)...)
	return out[:len(b)]
}

// scribble writes over a list, spare room included.
func scribble(b []byte) {
	b = b[:cap(b)]
	for i := range b {
		b[i] ^= 0xFF
	}
}

func sameBlock(a, b api.Block) bool {
	return a.Tag == b.Tag && bytes.Equal(a.Body, b.Body)
}

// checkDecode holds Decode against the model, and what it takes against Encode.
func checkDecode(t *testing.T, b []byte) {
	t.Helper()
	block, n, err := frame.Decode(b)
	want, wantN, wantErr := modelDecode(b)
	if !sameBlock(block, want) || n != wantN || err != wantErr {
		t.Fatalf("Decode(%x) = %v, %d, %v, want %v, %d, %v", b, block, n, err, want, wantN, wantErr)
	}
	if err != nil {
		return
	}
	again, err := frame.Encode(block.Tag, block.Body)
	if err != nil || !bytes.Equal(again, b[:n]) {
		t.Fatalf("Decode takes %x, and Encode makes %x, %v of it", b[:n], again, err)
	}
}

// P2.2
func TestEncode(t *testing.T) {
	for _, c := range []struct {
		tag  byte
		body string
		want string
	}{
		{1, "a", "010161aad32ddd"},
		{1, "", "0100" + hex.EncodeToString(modelWord(modelSum([]byte{1, 0})))},
		{255, "", "ff00" + hex.EncodeToString(modelWord(modelSum([]byte{255, 0})))},
	} {
		b, err := frame.Encode(c.tag, []byte(c.body))
		if err != nil || hex.EncodeToString(b) != c.want {
			t.Errorf("Encode(%d, %q) = %x, %v, want %s", c.tag, c.body, b, err, c.want)
		}
	}
	dice := rand.New(rand.NewSource(31))
	for tag := 1; tag < 256; tag++ {
		body := someBytes(dice, 300)
		b, err := frame.Encode(byte(tag), body)
		if err != nil || !bytes.Equal(b, modelEncode(byte(tag), body)) {
			t.Errorf("Encode(%d, %x) = %x, %v", tag, body, b, err)
		}
	}
}

// P2.2
func TestEncodeRefusesTheTagNought(t *testing.T) {
	for _, body := range [][]byte{nil, {}, {0}, []byte("a"), make([]byte, 1000)} {
		if b, err := frame.Encode(0, body); err != api.ErrTag || len(b) != 0 {
			t.Errorf("Encode(0, %x) = %x, %v", body, b, err)
		}
	}
}

// P2.2
func TestBlockThereAndBack(t *testing.T) {
	dice := rand.New(rand.NewSource(32))
	for _, size := range edgeSizes() {
		for _, tag := range []byte{1, 2, 127, 128, 255} {
			body := make([]byte, size)
			dice.Read(body)
			b, err := frame.Encode(tag, body)
			if err != nil {
				t.Fatal(err)
			}
			for _, behind := range [][]byte{nil, {0}, {1}, {255}, []byte("0123456789abcdef"), b} {
				block, n, err := frame.Decode(codec.Concat(b, behind))
				if err != nil || n != len(b) || !sameBlock(block, api.Block{Tag: tag, Body: body}) {
					t.Errorf("Decode of a block of %d bytes, %d behind it: %d, %v", size, len(behind), n, err)
				}
			}
		}
	}
}

// P2.2: each error, and of two that apply the one that the chapter names first.
func TestDecodeRefuses(t *testing.T) {
	nines := "ffffffffffffffffff"
	for _, c := range []struct {
		name, b string
		want    error
	}{
		{"nothing", "", api.ErrShort},
		{"the tag 0 alone", "00", api.ErrTag},
		{"the tag 0 ahead of a block", "00010161aad32ddd", api.ErrTag},
		{"the tag 0 ahead of no number", "0080", api.ErrTag},
		{"the tag 0 ahead of a wrong number", "008000", api.ErrTag},
		{"the tag alone", "01", api.ErrShort},
		{"a cut number", "0180", api.ErrShort},
		{"a cut number of nine bytes", "01" + nines, api.ErrShort},
		{"a number that isn't the shortest", "018000", api.ErrVarint},
		{"a number that isn't the shortest, of ten bytes", "0180808080808080808000" + "00000000", api.ErrVarint},
		{"a number above 64 bits", "01" + nines + "02", api.ErrVarint},
		{"a number that goes on behind its tenth byte", "01" + nines + "81" + "00000000", api.ErrVarint},
		{"the number 2^64 - 1", "01" + nines + "01" + "00000000", api.ErrShort},
		{"the number 2^64 - 4", "01" + "fcffffffffffffffff01" + "00000000", api.ErrShort},
		{"the number 2^63", "01" + "80808080808080808001" + "00000000", api.ErrShort},
		{"the number 2^63 - 1", "01" + "ffffffffffffffff7f" + "00000000", api.ErrShort},
		{"the number 2^63 - 4", "01" + "fcffffffffffffff7f" + "00000000", api.ErrShort},
		{"no body and no sum", "0101", api.ErrShort},
		{"no sum", "010161", api.ErrShort},
		{"a cut sum", "010161aad32d", api.ErrShort},
		{"a cut sum that is wrong", "010161000000", api.ErrShort},
		{"no body, and a sum of three bytes", "0100000000", api.ErrShort},
		{"a body one byte too long", "010261aad32ddd", api.ErrShort},
		{"another body", "010162aad32ddd", api.ErrSum},
		{"another tag", "020161aad32ddd", api.ErrSum},
		{"another number, and enough bytes", "010061aad32ddd", api.ErrSum},
		{"another sum", "010161aad32ddc", api.ErrSum},
		{"the sum's bytes the other way round", "010161dd2dd3aa", api.ErrSum},
		{"the sum's bits turned", "010161552cd222", api.ErrSum},
	} {
		b := unhex(c.b)
		block, n, err := frame.Decode(b)
		if err != c.want || n != 0 || block.Tag != 0 || len(block.Body) != 0 {
			t.Errorf("Decode of %s = %v, %d, %v, want %v", c.name, block, n, err, c.want)
		}
		checkDecode(t, b)
	}
}

// P2.2: every cut of a block is too short.
func TestDecodeRefusesEveryCut(t *testing.T) {
	for _, size := range []int{0, 1, 5, 127, 128, 300} {
		b := modelEncode(7, bytes.Repeat([]byte{9}, size))
		for n := range b {
			if block, used, err := frame.Decode(b[:n]); err != api.ErrShort || used != 0 || block.Tag != 0 || len(block.Body) != 0 {
				t.Errorf("the first %d of %d bytes: %v, %d, %v", n, len(b), block, used, err)
			}
		}
	}
}

// P2.2
func TestDecodeRefusesATurnedByte(t *testing.T) {
	for _, size := range []int{0, 1, 2, 20, 130} {
		good := modelEncode(3, bytes.Repeat([]byte{0x5A}, size))
		ofNumber := len(modelUvarint(size))
		for at := range good {
			for other := range 256 {
				bad := bytes.Clone(good)
				bad[at] = byte(other)
				if bad[at] == good[at] {
					continue
				}
				inNumber := at >= 1 && at < 1+ofNumber
				if _, _, err := frame.Decode(bad); err == nil && !inNumber {
					t.Errorf("a body of %d bytes, byte %d as %d: taken", size, at, other)
				}
				checkDecode(t, bad)
			}
		}
	}
}

// P2.2: over all bytes of a few, and over rows of edges.
func TestDecodeOverAllShortBytes(t *testing.T) {
	checkDecode(t, nil)
	for i := range 256 {
		checkDecode(t, []byte{byte(i)})
		for j := range 256 {
			checkDecode(t, []byte{byte(i), byte(j)})
			checkDecode(t, []byte{1, byte(i), byte(j), 0, 0, 0, 0, 0})
		}
	}
	edges := []byte{0, 1, 2, 127, 128, 255}
	row := make([]byte, 7)
	for k := range 6 * 6 * 6 * 6 * 6 * 6 * 6 {
		for i := range row {
			row[i] = edges[k%6]
			k /= 6
		}
		checkDecode(t, row)
	}
}

// spoil turns a byte, cuts, or puts something in, somewhere.
func spoil(dice *rand.Rand, b []byte) []byte {
	out := bytes.Clone(b)
	if len(out) == 0 {
		return []byte{byte(dice.Intn(256))}
	}
	at := dice.Intn(len(out))
	switch dice.Intn(4) {
	case 0:
		out[at] ^= byte(1 + dice.Intn(255))
	case 1:
		out = out[:at]
	case 2:
		out = append(out[:at:at], b[min(at+1, len(b)):]...)
	default:
		out = append(out[:at:at], append(someBytes(dice, 4), b[at:]...)...)
	}
	return out
}

// P2.2
func TestDecodeOverSpoiltBlocks(t *testing.T) {
	dice := rand.New(rand.NewSource(33))
	for range 20000 {
		b := modelEncode(byte(1+dice.Intn(255)), someBytes(dice, 200))
		checkDecode(t, codec.Concat(b, someBytes(dice, 10)))
		checkDecode(t, spoil(dice, b))
		checkDecode(t, someBytes(dice, 30))
	}
}

// Rule 5
func TestBlocksShareNothing(t *testing.T) {
	body := roomy([]byte("a body"))
	kept := bytes.Clone(body[:cap(body)])
	b, _ := frame.Encode(5, body)
	if !bytes.Equal(body[:cap(body)], kept) {
		t.Error("Encode writes into the body")
	}
	scribble(body)
	if !bytes.Equal(b, modelEncode(5, []byte("a body"))) {
		t.Error("Encode shares the body")
	}

	b = roomy(b)
	kept = bytes.Clone(b[:cap(b)])
	one, _, _ := frame.Decode(b)
	two, _, _ := frame.Decode(b)
	scribble(one.Body)
	if !bytes.Equal(b[:cap(b)], kept) {
		t.Error("Decode writes into the bytes, or shares them")
	}
	if string(two.Body) != "a body" {
		t.Error("two answers of Decode share memory")
	}
	scribble(b)
	if string(two.Body) != "a body" {
		t.Error("Decode keeps the bytes")
	}
}

func FuzzDecode(f *testing.F) {
	f.Add(modelEncode(1, []byte("a")))
	f.Add(unhex("01ffffffffffffffffff0100000000"))
	f.Fuzz(func(t *testing.T, b []byte) { checkDecode(t, b) })
}
