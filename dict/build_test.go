package dict_test

import (
	"bytes"
	"encoding/hex"
	"math"
	"math/rand"
	"slices"
	"strings"
	"testing"

	"concord/api"
	"concord/dict"
)

// holdBuild holds Build against the model.
func holdBuild(t *testing.T, entries []api.Entry) {
	t.Helper()
	image, err := dict.Build(entries)
	fault := modelFault(entries)
	if err != fault {
		t.Fatalf("Build of %v answers %v, not %v", entries, err, fault)
	}
	if err != nil && len(image) != 0 {
		t.Fatalf("Build of %v answers % x beside %v", entries, image, err)
	}
	if err == nil && !bytes.Equal(image, modelImage(entries)) {
		t.Fatalf("Build of %v is % x, not % x", entries, image, modelImage(entries))
	}
}

// P6.1: the chapter's examples.
func TestBuildExamples(t *testing.T) {
	ab := api.Entry{Key: "ab", Docs: 1, Total: 2, At: 0, Size: 5}
	abd := api.Entry{Key: "abd", Docs: 1, Total: 1, At: 5, Size: 130}
	for _, row := range []struct {
		entries []api.Entry
		image   string
	}{
		{nil, "00"},
		{[]api.Entry{}, "00"},
		{[]api.Entry{ab}, "01080002616201020005"},
		{[]api.Entry{ab, abd}, "0210000261620102000502016401010582" + "01"},
		{[]api.Entry{{Key: "\x00"}}, "0107000100" + "00000000"},
		{[]api.Entry{{Key: "\xff", Docs: 127, Total: 128, At: 2147483647, Size: 16384}}, "010e0001ff" + "7f" + "8001" + "ffffffff07" + "808001"},
		{[]api.Entry{{Key: "a"}, {Key: "b"}}, "020e00016100000000" + "00016200000000"},
		{[]api.Entry{{Key: "a"}, {Key: "a\x00"}}, "020e00016100000000" + "01010000000000"},
	} {
		image, err := dict.Build(row.entries)
		if got := hex.EncodeToString(image); err != nil || got != row.image {
			t.Errorf("Build of %v is %s and %v, not %s", row.entries, got, err, row.image)
		}
		holdBuild(t, row.entries)
	}
}

// P6.1: the first key of a block is told whole, though it shares bytes with the one ahead of it.
func TestBuildBlocks(t *testing.T) {
	for n, lengths := range map[int][]byte{0: nil, 1: {13}, 15: {111}, 16: {118}, 17: {118, 13}, 32: {118, 118}, 33: {118, 118, 13}} {
		var entries []api.Entry
		for i := range n {
			entries = append(entries, api.Entry{Key: "shared" + string([]byte{byte(i)})})
		}
		image := mustBuild(t, entries)
		ahead := append([]byte{byte(n)}, lengths...)
		if !bytes.HasPrefix(image, ahead) {
			t.Errorf("Build of %d keys begins with % x, not % x", n, image[:len(ahead)], ahead)
		}
		sum := len(ahead)
		for _, length := range lengths {
			sum += int(length)
		}
		if len(image) != sum {
			t.Errorf("Build of %d keys has %d bytes, not %d", n, len(image), sum)
		}
		holdBuild(t, entries)
	}
}

// P6.1
func TestBuildOfManyKinds(t *testing.T) {
	for name, entries := range named() {
		if fault := modelFault(entries); fault != nil {
			t.Fatalf("the list %s is no list of entries: %v", name, fault)
		}
		holdBuild(t, entries)
	}
	holdBuild(t, counted(5000))
}

// P6.1: a bad key or number, wherever it stands.
func TestBuildLimits(t *testing.T) {
	bad := map[string]api.Entry{}
	good := map[string]api.Entry{}
	for _, n := range []int{1, 2, 64, 65} {
		good["key "+strings.Repeat("m", n)] = api.Entry{Key: strings.Repeat("m", n)}
	}
	for _, n := range []int{0, 66, 67, 130, 100000} {
		bad["key "+strings.Repeat("m", n)] = api.Entry{Key: strings.Repeat("m", n)}
	}
	put := []func(*api.Entry) *int{
		func(e *api.Entry) *int { return &e.Docs },
		func(e *api.Entry) *int { return &e.Total },
		func(e *api.Entry) *int { return &e.At },
		func(e *api.Entry) *int { return &e.Size },
	}
	for i, field := range put {
		set := func(to map[string]api.Entry, v int) {
			e := api.Entry{Key: "m", Docs: 1, Total: 2, At: 3, Size: 4}
			*field(&e) = v
			to[strings.Join([]string{"number", string(rune('0' + i)), hex.EncodeToString(modelUvarint(v & math.MaxInt))}, " ")] = e
		}
		for _, v := range []int{0, 1, 2147483646, 2147483647} {
			set(good, v)
		}
		for _, v := range []int{-1, -2147483648, math.MinInt, 2147483648, 4294967296, math.MaxInt} {
			set(bad, v)
		}
	}
	others := counted(40)
	for _, at := range []int{0, 1, 15, 16, 17, 39, 40} {
		for _, e := range good {
			list := slices.Insert(slices.Clone(others[:at]), at, e)
			holdBuild(t, list)
			if _, err := dict.Build(list); err != nil {
				t.Errorf("Build with %v at %d answers %v", e, at, err)
			}
		}
		for name, e := range bad {
			rising := slices.Insert(slices.Clone(others), at, e)
			falling := slices.Clone(rising)
			slices.Reverse(falling)
			for _, list := range [][]api.Entry{rising, falling, {e}} {
				image, err := dict.Build(list)
				if err != api.ErrLimit || len(image) != 0 {
					t.Errorf("Build with the bad %.20s at %d answers % x and %v", name, at, image, err)
				}
				holdBuild(t, list)
			}
		}
	}
}

// P6.1: keys that don't rise, wherever they stand.
func TestBuildOrder(t *testing.T) {
	for _, keys := range [][]string{
		{"b", "a"}, {"a", "a"}, {"ab", "a"}, {"a\x00", "a"}, {"\xff", "\x00"}, {"b", "ab"}, {"\x80", "\x7f"},
		{"a", "b", "b"}, {"a", "c", "b"}, {"b", "a", "c"},
	} {
		var list []api.Entry
		for _, key := range keys {
			list = append(list, api.Entry{Key: key})
		}
		if image, err := dict.Build(list); err != api.ErrOrder || len(image) != 0 {
			t.Errorf("Build of the keys %q answers % x and %v", keys, image, err)
		}
		holdBuild(t, list)
	}
	rising := counted(40)
	for i := 1; i < len(rising); i++ {
		same := slices.Clone(rising)
		same[i].Key = same[i-1].Key
		swapped := slices.Clone(rising)
		swapped[i-1], swapped[i] = swapped[i], swapped[i-1]
		limit := slices.Clone(swapped)
		limit[(i+20)%40].Size = -1
		for _, row := range []struct {
			list []api.Entry
			err  error
		}{{same, api.ErrOrder}, {swapped, api.ErrOrder}, {limit, api.ErrLimit}} {
			if _, err := dict.Build(row.list); err != row.err {
				t.Errorf("Build with a fault at %d answers %v, not %v", i, err, row.err)
			}
		}
	}
}

// P6.1
func TestBuildOfMadeLists(t *testing.T) {
	dice := rand.New(rand.NewSource(61))
	for range 3000 {
		keys := madeKeys(dice, dice.Intn(5), 3, "ab\xff")
		if dice.Intn(4) == 0 {
			keys = madeKeys(dice, dice.Intn(4), 70, "a")
		}
		var list []api.Entry
		for _, key := range keys {
			list = append(list, api.Entry{Key: key, Docs: dice.Intn(5), Size: 1<<31 - dice.Intn(30)})
		}
		holdBuild(t, list)
		slices.SortFunc(list, func(a, b api.Entry) int { return strings.Compare(a.Key, b.Key) })
		holdBuild(t, list)
	}
}

// P6.1: the entries stay as they are, spare room included, and the image is new each time.
func TestBuildSharesNothing(t *testing.T) {
	all := counted(40)
	before := slices.Clone(all)
	first := mustBuild(t, all[:33])
	if !slices.Equal(all, before) {
		t.Fatal("Build changed what it was given")
	}
	kept := bytes.Clone(first)
	second := mustBuild(t, all[:33])
	wipe(second)
	if !bytes.Equal(first, kept) {
		t.Fatal("two images share bytes")
	}
	slices.Reverse(all)
	if !bytes.Equal(first, kept) {
		t.Fatal("an image changes with the entries")
	}
}

// wipe writes over all bytes, spare room included.
func wipe(b []byte) {
	b = b[:cap(b)]
	for i := range b {
		b[i] ^= 0x55
	}
}
