package frame_test

import (
	"bytes"
	"encoding/hex"
	"math/rand"
	"runtime"
	"slices"
	"testing"

	"concord/api"
	"concord/codec"
	"concord/frame"
)

func sameBlocks(a, b []api.Block) bool {
	return slices.EqualFunc(a, b, sameBlock)
}

// checkUnpack holds Unpack against the model, and what it takes against Pack.
func checkUnpack(t *testing.T, kind byte, image []byte) {
	t.Helper()
	blocks, err := frame.Unpack(kind, image)
	want, wantErr := modelUnpack(kind, image)
	if !sameBlocks(blocks, want) || err != wantErr {
		t.Fatalf("Unpack(%d, %x) = %v, %v, want %v, %v", kind, image, blocks, err, want, wantErr)
	}
	if err != nil {
		return
	}
	again, err := frame.Pack(kind, blocks)
	if err != nil || !bytes.Equal(again, image) {
		t.Fatalf("Unpack takes %x, and Pack makes %x, %v of it", image, again, err)
	}
}

// sealed is an image's bytes in hex, without the seal, with a seal that fits.
func sealed(s string) []byte {
	return modelSealed(unhex(s))
}

// P2.4
func TestPack(t *testing.T) {
	none, err := frame.Pack(9, nil)
	if err != nil || hex.EncodeToString(none) != "636e63640900fb0977b9" {
		t.Errorf("Pack(9, no blocks) = %x, %v", none, err)
	}
	empty, err := frame.Pack(9, []api.Block{})
	if err != nil || !bytes.Equal(empty, none) {
		t.Errorf("Pack(9, an empty list) = %x, %v", empty, err)
	}
	one, err := frame.Pack(255, []api.Block{{Tag: 1, Body: []byte("a")}})
	if err != nil || !bytes.Equal(one, sealed("636e6364ff01"+"010161aad32ddd")) {
		t.Errorf("Pack(255, a block) = %x, %v", one, err)
	}
	dice := rand.New(rand.NewSource(51))
	for kind := 1; kind < 256; kind++ {
		blocks := someBlocks(dice, 5)
		image, err := frame.Pack(byte(kind), blocks)
		if err != nil || !bytes.Equal(image, modelPack(byte(kind), blocks)) {
			t.Errorf("Pack(%d, %v) = %x, %v", kind, blocks, image, err)
		}
	}
}

// P2.4
func TestPackRefuses(t *testing.T) {
	good, bad := api.Block{Tag: 1, Body: []byte("a")}, api.Block{Tag: 0, Body: []byte("b")}
	for _, c := range []struct {
		name   string
		kind   byte
		blocks []api.Block
	}{
		{"the kind 0", 0, nil},
		{"the kind 0 with a block", 0, []api.Block{good}},
		{"the tag 0", 1, []api.Block{bad}},
		{"the tag 0 at first", 1, []api.Block{bad, good}},
		{"the tag 0 at last", 255, []api.Block{good, good, bad}},
		{"the kind 0 and the tag 0", 0, []api.Block{bad}},
		{"a block of zero values", 3, []api.Block{{}}},
	} {
		if image, err := frame.Pack(c.kind, c.blocks); err != api.ErrTag || len(image) != 0 {
			t.Errorf("%s: %x, %v", c.name, image, err)
		}
	}
}

// P2.4
func TestImageThereAndBack(t *testing.T) {
	dice := rand.New(rand.NewSource(52))
	var big []api.Block
	for _, size := range edgeSizes() {
		big = append(big, api.Block{Tag: byte(1 + len(big)), Body: make([]byte, size)})
	}
	lists := [][]api.Block{nil, {{Tag: 1}}, {{Tag: 255}, {Tag: 255}}, big}
	for _, count := range []int{127, 128, 129, 16384} {
		lists = append(lists, slices.Repeat([]api.Block{{Tag: 4, Body: []byte{byte(count)}}}, count))
	}
	for range 300 {
		lists = append(lists, someBlocks(dice, 12))
	}
	for i, blocks := range lists {
		kind := byte(1 + i%255)
		image, err := frame.Pack(kind, blocks)
		if err != nil {
			t.Fatal(err)
		}
		got, err := frame.Unpack(kind, image)
		if err != nil || !sameBlocks(got, blocks) {
			t.Errorf("list %d: %d blocks of %d, %v", i, len(got), len(blocks), err)
		}
		checkUnpack(t, kind, image)
	}
}

// P2.4
func TestUnpackOfAnotherKind(t *testing.T) {
	image := modelPack(9, []api.Block{{Tag: 1, Body: []byte("a")}})
	for kind := range 256 {
		blocks, err := frame.Unpack(byte(kind), image)
		if kind == 9 && err != nil || kind != 9 && (err != api.ErrTag || len(blocks) != 0) {
			t.Errorf("Unpack(%d, an image of the kind 9) = %v, %v", kind, blocks, err)
		}
	}
}

// P2.4: each error, and of two that apply the one that the chapter names first.
func TestUnpackRefuses(t *testing.T) {
	const block, nines = "010161aad32ddd", "ffffffffffffffffff"
	none := unhex("636e63640900fb0977b9")
	for _, c := range []struct {
		name  string
		kind  byte
		image []byte
		want  error
	}{
		{"nothing", 9, nil, api.ErrShort},
		{"nothing, and the kind 0", 0, nil, api.ErrShort},
		{"nine bytes", 9, none[:9], api.ErrShort},
		{"nine bytes under a seal that fits", 9, sealed("636e636409"), api.ErrShort},
		{"the wrong letters under a seal that fits, nine bytes", 9, sealed("0000000000"), api.ErrShort},
		{"ten bytes without a seal", 9, unhex("636e6364090000000000"), api.ErrSum},
		{"one block claimed, and the old seal", 9, unhex("636e63640901fb0977b9"), api.ErrSum},
		{"the seal of a sum's kind", 9, append(bytes.Clone(none[:6]), modelWord(modelSum(none[:6]))...), api.ErrSum},
		{"the seal's bytes the other way round", 9, unhex("636e63640900b97709fb"), api.ErrSum},
		{"a byte behind the seal", 9, append(bytes.Clone(none), 0), api.ErrSum},
		{"a wrong seal and the kind 0", 0, unhex("636e63640900fb0977b8"), api.ErrSum},
		{"a wrong seal and another kind", 8, unhex("636e63640900fb0977b8"), api.ErrSum},
		{"the kind 0", 0, none, api.ErrTag},
		{"the kind 0 asked of the kind 0", 0, sealed("636e63640000"), api.ErrTag},
		{"an image of the kind 0", 9, sealed("636e63640000"), api.ErrTag},
		{"another kind", 8, none, api.ErrTag},
		{"another first letter", 9, sealed("646e63640900"), api.ErrTag},
		{"another second letter", 9, sealed("636f63640900"), api.ErrTag},
		{"another third letter", 9, sealed("636e64640900"), api.ErrTag},
		{"another fourth letter", 9, sealed("636e63650900"), api.ErrTag},
		{"another kind and a wrong number", 9, sealed("636e6364088000"), api.ErrTag},
		{"a cut number", 9, sealed("636e63640980"), api.ErrShort},
		{"a cut number of nine bytes", 9, sealed("636e636409" + nines), api.ErrShort},
		{"a number that isn't the shortest", 9, sealed("636e6364098000"), api.ErrVarint},
		{"a number above 64 bits", 9, sealed("636e636409" + nines + "02"), api.ErrVarint},
		{"a block that isn't there", 9, sealed("636e63640901"), api.ErrShort},
		{"a second block that isn't there", 9, sealed("636e63640902" + block), api.ErrShort},
		{"2^64 - 1 blocks", 9, sealed("636e636409" + nines + "01"), api.ErrShort},
		{"2^64 - 1 blocks and one there", 9, sealed("636e636409" + nines + "01" + block), api.ErrShort},
		{"2^63 blocks", 9, sealed("636e636409" + "80808080808080808001"), api.ErrShort},
		{"a block that is cut by the seal", 9, sealed("636e63640901" + block[:12]), api.ErrShort},
		{"a block of the tag 0", 9, sealed("636e63640901" + "000161aad32ddd"), api.ErrTag},
		{"a block with a wrong number", 9, sealed("636e63640901" + "01800061aad32ddd"), api.ErrVarint},
		{"a block with a wrong sum", 9, sealed("636e63640901" + "010162aad32ddd"), api.ErrSum},
		{"a second block with a wrong sum", 9, sealed("636e63640902" + block + "010162aad32ddd"), api.ErrSum},
		{"a wrong block and a byte behind it", 9, sealed("636e63640901" + "010162aad32ddd" + "00"), api.ErrSum},
		{"a byte behind no block", 9, sealed("636e6364090005"), api.ErrTail},
		{"a block behind no block", 9, sealed("636e63640900" + block), api.ErrTail},
		{"a byte behind the last block", 9, sealed("636e63640901" + block + "00"), api.ErrTail},
		{"a block behind the last block", 9, sealed("636e63640901" + block + block), api.ErrTail},
	} {
		blocks, err := frame.Unpack(c.kind, c.image)
		if err != c.want || len(blocks) != 0 {
			t.Errorf("%s: %v, %v, want %v", c.name, blocks, err, c.want)
		}
		checkUnpack(t, c.kind, c.image)
	}
}

// P2.4: spoilt inside, under a seal that fits.
func TestUnpackOverSpoiltImages(t *testing.T) {
	dice := rand.New(rand.NewSource(53))
	for range 20000 {
		kind := byte(1 + dice.Intn(3))
		image := modelPack(kind, someBlocks(dice, 4))
		checkUnpack(t, kind, image)
		checkUnpack(t, kind, spoil(dice, image))
		checkUnpack(t, kind, modelSealed(spoil(dice, image[:len(image)-4])))
		inside := codec.Concat([]byte{99, 110, 99, 100, kind}, someBytes(dice, 12))
		checkUnpack(t, kind, modelSealed(inside))
	}
	for i := range 256 {
		for j := range 256 {
			checkUnpack(t, 1, modelSealed([]byte{99, 110, 99, 100, 1, byte(i), byte(j)}))
		}
	}
}

// P2.4: no room is made for blocks that the bytes merely claim.
func TestUnpackMakesNoClaimedRoom(t *testing.T) {
	image := sealed("636e636409" + "ffffffffffffffffff01" + "010161aad32ddd")
	var before, behind runtime.MemStats
	runtime.ReadMemStats(&before)
	for range 100 {
		if _, err := frame.Unpack(9, image); err != api.ErrShort {
			t.Fatal(err)
		}
	}
	runtime.ReadMemStats(&behind)
	if got := behind.TotalAlloc - before.TotalAlloc; got > 1<<20 {
		t.Errorf("%d bytes made for 100 images of %d bytes", got, len(image))
	}
}

// P2.4: the work grows with the bytes; copying the rest at each block would take minutes here.
func TestUnpackOfManyBlocks(t *testing.T) {
	blocks := slices.Repeat([]api.Block{{Tag: 1, Body: []byte("x")}}, 300000)
	image, err := frame.Pack(1, blocks)
	if err != nil {
		t.Fatal(err)
	}
	if got, err := frame.Unpack(1, image); err != nil || !sameBlocks(got, blocks) {
		t.Errorf("%d blocks, %v", len(got), err)
	}
}

// P2.5
func TestEveryTurnedByteOfAnImage(t *testing.T) {
	for _, blocks := range [][]api.Block{
		nil,
		{{Tag: 1}},
		{{Tag: 1, Body: []byte("a")}},
		{{Tag: 3, Body: []byte("one")}, {Tag: 3}, {Tag: 255, Body: make([]byte, 200)}},
	} {
		image, err := frame.Pack(9, blocks)
		if err != nil {
			t.Fatal(err)
		}
		for at := range image {
			for other := range 256 {
				bad := bytes.Clone(image)
				bad[at] = byte(other)
				if bad[at] == image[at] {
					continue
				}
				for _, kind := range []byte{9, 0, bad[4]} {
					if got, err := frame.Unpack(kind, bad); err != api.ErrSum || len(got) != 0 {
						t.Errorf("byte %d of %d as %d: %v, %v", at, len(image), other, got, err)
					}
				}
			}
		}
	}
}

// Rule 5
func TestImagesShareNothing(t *testing.T) {
	body := roomy([]byte("a body"))
	blocks := append(make([]api.Block, 0, 4), api.Block{Tag: 1, Body: body}, api.Block{Tag: 2}, api.Block{Tag: 3, Body: body})
	kept := bytes.Clone(body[:cap(body)])
	want := modelPack(9, blocks)
	image, _ := frame.Pack(9, blocks)
	if !bytes.Equal(body[:cap(body)], kept) || blocks[:4][3].Tag != 0 || blocks[:4][3].Body != nil {
		t.Error("Pack writes into what it is given")
	}
	scribble(body)
	if !bytes.Equal(image, want) {
		t.Error("Pack shares a body")
	}

	image = roomy(image)
	keptImage := bytes.Clone(image[:cap(image)])
	one, _ := frame.Unpack(9, image)
	two, _ := frame.Unpack(9, image)
	for i := range one {
		scribble(one[i].Body)
		for _, later := range one[i+1:] {
			if len(later.Body) > 0 && string(later.Body) != "a body" {
				t.Error("two bodies of one answer share memory")
			}
		}
	}
	if !bytes.Equal(image[:cap(image)], keptImage) {
		t.Error("Unpack writes into the image, or shares it")
	}
	scribble(image)
	if !bytes.Equal(modelPack(9, two), want) {
		t.Error("Unpack shares the image, or an earlier answer")
	}
}

func FuzzUnpack(f *testing.F) {
	f.Add(byte(9), unhex("636e63640900"))
	f.Add(byte(1), unhex("636e63640101010161aad32ddd"))
	f.Fuzz(func(t *testing.T, kind byte, b []byte) {
		checkUnpack(t, kind, b)
		checkUnpack(t, kind, modelSealed(b))
	})
}
