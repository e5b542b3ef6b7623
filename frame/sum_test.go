package frame_test

import (
	"hash/crc32"
	"math"
	"math/rand"
	"testing"

	"concord/codec"
	"concord/frame"
)

func someBytes(dice *rand.Rand, most int) []byte {
	b := make([]byte, dice.Intn(most+1))
	dice.Read(b)
	return b
}

// edgeNumbers are numbers of 32 bits at which a register may go wrong.
func edgeNumbers() []uint32 {
	return []uint32{0, 1, 2, 7, 0x80000000, 0x7FFFFFFF, 0xFFFFFFFE, 0xFFFFFFFF, sumNumber, sealNumber}
}

// P2.1
func TestSumAndSeal(t *testing.T) {
	for _, c := range []struct {
		text      string
		sum, seal uint32
	}{
		{"", 0, 0},
		{"a", 0xE8B7BE43, 0xC1D04330},
		{"123456789", 0xCBF43926, 0xE3069283},
		{"\x00", 0xD202EF8D, 0x527D5351},
		{"\xff", 0xFF000000, 0xFF000000},
	} {
		if s := frame.Sum([]byte(c.text)); s != c.sum {
			t.Errorf("Sum(%q) = %#x, want %#x", c.text, s, c.sum)
		}
		if s := frame.Seal([]byte(c.text)); s != c.seal {
			t.Errorf("Seal(%q) = %#x, want %#x", c.text, s, c.seal)
		}
	}
	if frame.Sum(nil) != 0 || frame.Seal(nil) != 0 {
		t.Error("the sums of nil")
	}
}

// checkSums holds both sums of b against the model, and against the library's.
func checkSums(t *testing.T, b []byte) {
	t.Helper()
	if s := frame.Sum(b); s != modelSum(b) || s != crc32.ChecksumIEEE(b) {
		t.Errorf("Sum(%x) = %#x, want %#x", b, s, modelSum(b))
	}
	if s := frame.Seal(b); s != modelSeal(b) || s != crc32.Checksum(b, crc32.MakeTable(crc32.Castagnoli)) {
		t.Errorf("Seal(%x) = %#x, want %#x", b, s, modelSeal(b))
	}
}

// P2.1
func TestSumsOfManyBytes(t *testing.T) {
	for i := range 256 {
		checkSums(t, []byte{byte(i)})
		checkSums(t, []byte{0, byte(i)})
		checkSums(t, []byte{byte(i), 0, 0, 0, 0, 0, 0, 0, 0})
	}
	dice := rand.New(rand.NewSource(21))
	for range 2000 {
		checkSums(t, someBytes(dice, 300))
	}
	long := make([]byte, 1<<20)
	dice.Read(long)
	checkSums(t, long)
}

// P2.1
func TestExtend(t *testing.T) {
	if s := frame.Extend(frame.Sum([]byte("1234")), []byte("56789")); s != 0xCBF43926 {
		t.Errorf("Extend = %#x", s)
	}
	dice := rand.New(rand.NewSource(22))
	for _, sum := range append(edgeNumbers(), dice.Uint32(), dice.Uint32()) {
		if s := frame.Extend(sum, nil); s != sum {
			t.Errorf("Extend(%#x, nothing) = %#x", sum, s)
		}
		for i := range 256 {
			b := []byte{byte(i)}
			if s := frame.Extend(sum, b); s != modelExtend(sum, b) {
				t.Errorf("Extend(%#x, %x) = %#x, want %#x", sum, b, s, modelExtend(sum, b))
			}
		}
		b := someBytes(dice, 100)
		if s := frame.Extend(sum, b); s != modelExtend(sum, b) {
			t.Errorf("Extend(%#x, %x) = %#x, want %#x", sum, b, s, modelExtend(sum, b))
		}
		if s := frame.Extend(0, b); s != frame.Sum(b) {
			t.Errorf("Extend(0, %x) = %#x", b, s)
		}
	}
}

// P2.1
func TestJoinOverFewBytes(t *testing.T) {
	dice := rand.New(rand.NewSource(23))
	for _, a := range append(edgeNumbers(), dice.Uint32()) {
		for _, b := range append(edgeNumbers(), dice.Uint32()) {
			for _, n := range []int{0, 1, 2, 3, 4, 5, 7, 8, 15, 16, 63, 64, 100, 255, 256, 1000} {
				if s := frame.Join(a, b, n); s != modelJoin(a, b, n) {
					t.Errorf("Join(%#x, %#x, %d) = %#x, want %#x", a, b, n, s, modelJoin(a, b, n))
				}
			}
		}
	}
}

// P2.1
func TestJoinOverNothing(t *testing.T) {
	for _, a := range edgeNumbers() {
		for _, b := range edgeNumbers() {
			for _, n := range []int{0, -1, -2, -3, -255, -256, math.MinInt32, math.MinInt, math.MinInt + 1} {
				if s := frame.Join(a, b, n); s != a^b {
					t.Errorf("Join(%#x, %#x, %d) = %#x, want %#x", a, b, n, s, a^b)
				}
			}
		}
	}
}

// P2.1
func TestJoinOverManyBytes(t *testing.T) {
	list := []int{math.MaxInt, math.MaxInt - 1, math.MaxInt32, math.MaxInt32 + 1, math.MaxUint32, math.MaxUint32 + 1}
	dice := rand.New(rand.NewSource(24))
	for i := range 63 {
		list = append(list, 1<<i, 1<<i+1, int(dice.Uint64()>>1>>i))
	}
	for _, n := range list {
		for _, a := range append(edgeNumbers(), dice.Uint32()) {
			b := dice.Uint32()
			if s := frame.Join(a, b, n); s != modelJoinFar(a, b, n) {
				t.Errorf("Join(%#x, %#x, %d) = %#x, want %#x", a, b, n, s, modelJoinFar(a, b, n))
			}
		}
	}
	// The two models are one where both can be asked.
	if modelJoinFar(5, 6, 5000) != modelJoin(5, 6, 5000) {
		t.Error("the models of Join disagree")
	}
}

// P2.1
func TestSumOfTwoListsInThreeWays(t *testing.T) {
	dice := rand.New(rand.NewSource(25))
	for i := range 3000 {
		a, b := someBytes(dice, 80), someBytes(dice, 80)
		if i%10 == 0 {
			a = nil
		}
		if i%10 == 1 {
			b = nil
		}
		whole := modelSum(codec.Concat(a, b))
		if s := frame.Extend(frame.Sum(a), b); s != whole {
			t.Errorf("Extend over %x and %x = %#x, want %#x", a, b, s, whole)
		}
		if s := frame.Join(frame.Sum(a), frame.Sum(b), len(b)); s != whole {
			t.Errorf("Join over %x and %x = %#x, want %#x", a, b, s, whole)
		}
		if s := frame.Sum(codec.Concat(a, b)); s != whole {
			t.Errorf("Sum over %x and %x = %#x, want %#x", a, b, s, whole)
		}
	}
}
