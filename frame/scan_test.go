package frame_test

import (
	"bytes"
	"iter"
	"math/rand"
	"slices"
	"testing"

	"concord/api"
	"concord/codec"
	"concord/frame"
)

// goOver gathers what the iterator tells, up to most steps; what is told is kept as it was told.
func goOver(seq iter.Seq2[int, api.Block], most int) []told {
	var out []told
	if most == 0 {
		return out
	}
	for at, block := range seq {
		out = append(out, told{at, block})
		if len(out) == most {
			break
		}
	}
	return out
}

func sameTold(a, b []told) bool {
	return slices.EqualFunc(a, b, func(x, y told) bool { return x.at == y.at && sameBlock(x.block, y.block) })
}

// checkScan holds Scan against the model: twice, and stopped early at every step.
func checkScan(t *testing.T, b []byte) {
	t.Helper()
	want := modelScan(b)
	seq := frame.Scan(b)
	for pass := range 2 {
		if got := goOver(seq, -1); !sameTold(got, want) {
			t.Fatalf("pass %d over %x: %v, want %v", pass, b, got, want)
		}
		for most := range len(want) {
			if got := goOver(seq, most+1); !sameTold(got, want[:most+1]) {
				t.Fatalf("the first %d over %x: %v", most+1, b, got)
			}
		}
	}
	place := 0
	for at, block := range seq {
		if at != place {
			t.Fatalf("over %x: a block begins at %d, the one before it ends at %d", b, at, place)
		}
		place += len(modelEncode(block.Tag, block.Body))
	}
}

// someBlocks has up to most blocks.
func someBlocks(dice *rand.Rand, most int) []api.Block {
	blocks := make([]api.Block, dice.Intn(most+1))
	for i := range blocks {
		blocks[i] = api.Block{Tag: byte(1 + dice.Intn(255)), Body: someBytes(dice, 20)}
	}
	return blocks
}

func chain(blocks []api.Block) []byte {
	var out []byte
	for _, block := range blocks {
		out = append(out, modelEncode(block.Tag, block.Body)...)
	}
	return out
}

// P2.3
func TestScanOverGoodBytes(t *testing.T) {
	dice := rand.New(rand.NewSource(41))
	checkScan(t, nil)
	checkScan(t, []byte{})
	for range 500 {
		blocks := someBlocks(dice, 8)
		b := chain(blocks)
		if got := goOver(frame.Scan(b), -1); len(got) != len(blocks) {
			t.Errorf("%d blocks of %d", len(got), len(blocks))
		}
		checkScan(t, b)
	}
}

// P2.3
func TestScanOverWrongBytes(t *testing.T) {
	a, b := modelEncode(1, []byte("a")), modelEncode(9, nil)
	for _, c := range []struct {
		name string
		b    []byte
		want int
	}{
		{"a byte behind the blocks", codec.Concat(a, b, []byte{0}), 2},
		{"a tag behind the blocks", codec.Concat(a, b, []byte{7}), 2},
		{"a cut block", codec.Concat(a, b, a[:6]), 2},
		{"a wrong block between two", codec.Concat(a, unhex("010162aad32ddd"), b), 1},
		{"a byte between two", codec.Concat(a, []byte{0}, b), 1},
		{"a byte ahead", codec.Concat([]byte{0}, a, b), 0},
		{"no block", []byte{1}, 0},
		{"a claimed body", codec.Concat(a, unhex("01ffffffffffffffffff0100000000")), 1},
	} {
		if got := goOver(frame.Scan(c.b), -1); len(got) != c.want {
			t.Errorf("%s: %d blocks, want %d", c.name, len(got), c.want)
		}
		checkScan(t, c.b)
	}
	dice := rand.New(rand.NewSource(42))
	for range 3000 {
		good := chain(someBlocks(dice, 6))
		checkScan(t, spoil(dice, good))
		checkScan(t, good[:dice.Intn(len(good)+1)])
		checkScan(t, codec.Concat(good, someBytes(dice, 8)))
	}
}

// P2.3, rules 5 and 9
func TestScanTellsWhatWasThere(t *testing.T) {
	blocks := []api.Block{{Tag: 1, Body: []byte("one")}, {Tag: 2}, {Tag: 3, Body: []byte("three")}}
	b := roomy(chain(blocks))
	kept := bytes.Clone(b[:cap(b)])
	want := modelScan(chain(blocks))
	seq := frame.Scan(b)
	first := goOver(seq, -1)
	if !bytes.Equal(b[:cap(b)], kept) {
		t.Error("Scan writes into the bytes")
	}
	scribble(b)
	if got := goOver(seq, -1); !sameTold(got, want) {
		t.Errorf("behind writing into the bytes: %v", got)
	}
	second := goOver(seq, -1)
	for _, x := range first {
		scribble(x.block.Body)
	}
	if !sameTold(second, want) || !sameTold(goOver(seq, -1), want) {
		t.Error("what is told shares memory with what was told, or with what is kept")
	}
	for i, x := range second {
		scribble(x.block.Body)
		if !sameTold(second[i+1:], want[i+1:]) {
			t.Error("two steps share memory")
		}
	}
}

// P2.3: two that go over one iterator don't disturb each other.
func TestScanInsideScan(t *testing.T) {
	seq := frame.Scan(chain([]api.Block{{Tag: 1}, {Tag: 2}, {Tag: 3}}))
	var tags []byte
	for _, outer := range seq {
		for _, inner := range seq {
			tags = append(tags, outer.Tag, inner.Tag)
		}
	}
	if !bytes.Equal(tags, []byte{1, 1, 1, 2, 1, 3, 2, 1, 2, 2, 2, 3, 3, 1, 3, 2, 3, 3}) {
		t.Errorf("tags %v", tags)
	}
}

// P2.3: the work grows with the bytes; copying the rest at each step would take minutes here.
func TestScanOverManyBlocks(t *testing.T) {
	b := bytes.Repeat(modelEncode(1, []byte("x")), 300000)
	count := 0
	for at := range frame.Scan(b) {
		if at != count*7 {
			t.Fatalf("block %d at %d", count, at)
		}
		count++
	}
	if count != 300000 {
		t.Errorf("%d blocks", count)
	}
}
