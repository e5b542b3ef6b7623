package dict_test

import (
	"fmt"
	"math/rand"
	"slices"
	"strings"
	"testing"

	"concord/api"
	"concord/dict"
)

// entriesOf has an entry for each of the keys, which needn't rise or be unlike; the numbers are small, great and at the limits in turn.
func entriesOf(keys ...string) []api.Entry {
	keys = slices.Clone(keys)
	slices.Sort(keys)
	keys = slices.Compact(keys)
	numbers := []int{0, 1, 127, 128, 16383, 16384, 300, 2147483647, 5, 0, 2147483646}
	var entries []api.Entry
	for i, key := range keys {
		at := func(k int) int { return numbers[(4*i+k)%len(numbers)] }
		entries = append(entries, api.Entry{Key: key, Docs: at(0), Total: at(1), At: at(2), Size: at(3)})
	}
	return entries
}

// counted has n keys, all of one length.
func counted(n int) []api.Entry {
	var keys []string
	for i := range n {
		keys = append(keys, fmt.Sprintf("key%04d", i))
	}
	return entriesOf(keys...)
}

// madeKeys are at most n keys out of few bytes, so that many are heads of one another.
func madeKeys(dice *rand.Rand, n, most int, alphabet string) []string {
	var keys []string
	for range n {
		key := make([]byte, 1+dice.Intn(most))
		for i := range key {
			key[i] = alphabet[dice.Intn(len(alphabet))]
		}
		keys = append(keys, string(key))
	}
	return keys
}

// allKeys are all texts of 1 to most bytes of the alphabet.
func allKeys(most int, alphabet string) []string {
	var keys []string
	last := []string{""}
	for range most {
		var next []string
		for _, head := range last {
			for _, b := range []byte(alphabet) {
				next = append(next, head+string([]byte{b}))
			}
		}
		keys = append(keys, next...)
		last = next
	}
	return keys
}

// named are lists of entries of many kinds, by what they are.
func named() map[string][]api.Entry {
	lists := map[string][]api.Entry{
		"none":        nil,
		"one":         entriesOf("k"),
		"short":       entriesOf(allKeys(2, "\x00\x01a\xfe\xff")...),
		"all bytes":   nil,
		"heads":       nil,
		"zeros":       nil,
		"high":        nil,
		"share much":  nil,
		"share all":   nil,
		"over blocks": nil,
	}
	for i := range 256 {
		lists["all bytes"] = append(lists["all bytes"], api.Entry{Key: string([]byte{byte(i)}), Docs: i})
	}
	var heads, zeros, high, much, all, over []string
	for n := 1; n <= 65; n++ {
		heads = append(heads, strings.Repeat("h", n))
		zeros = append(zeros, strings.Repeat("\x00", n))
		high = append(high, strings.Repeat("\xff", n))
		all = append(all, strings.Repeat("s", 64)+string([]byte{byte(4 * (n - 1))}))
		much = append(much, strings.Repeat("m", 65-n)+strings.Repeat("z", n))
		over = append(over, fmt.Sprintf("%02d", n/16)+strings.Repeat("o", n%16))
	}
	lists["heads"] = entriesOf(heads...)
	lists["zeros"] = entriesOf(zeros...)
	lists["high"] = entriesOf(high...)
	lists["share much"] = entriesOf(much...)
	lists["share all"] = entriesOf(all...)
	lists["over blocks"] = entriesOf(over...)
	for _, n := range []int{1, 2, 14, 15, 16, 17, 31, 32, 33, 47, 48, 49, 300} {
		lists[fmt.Sprint("counted ", n)] = counted(n)
	}
	dice := rand.New(rand.NewSource(6))
	for i, alphabet := range []string{"ab", "\x00\xff", "\x00a\xff", "abcdefgh"} {
		for _, n := range []int{3, 20, 100} {
			lists[fmt.Sprint("made ", i, " ", n)] = entriesOf(madeKeys(dice, n, 6, alphabet)...)
			lists[fmt.Sprint("made long ", i, " ", n)] = entriesOf(madeKeys(dice, n, 65, alphabet)...)
		}
	}
	return lists
}

func mustBuild(t testing.TB, entries []api.Entry) []byte {
	t.Helper()
	image, err := dict.Build(entries)
	if err != nil {
		t.Fatalf("Build of %v: %v", entries, err)
	}
	return image
}

func mustOpen(t testing.TB, entries []api.Entry) *dict.Dict {
	t.Helper()
	d, err := dict.Open(mustBuild(t, entries))
	if err != nil || d == nil {
		t.Fatalf("Open of the image of %v: %v", entries, err)
	}
	return d
}

// entriesIn are the entries of a Dict as At tells them.
func entriesIn(t testing.TB, d *dict.Dict) []api.Entry {
	t.Helper()
	var entries []api.Entry
	for i := range d.Len() {
		e, ok := d.At(i)
		if !ok {
			t.Fatalf("At(%d) of %d entries is none", i, d.Len())
		}
		entries = append(entries, e)
	}
	return entries
}
