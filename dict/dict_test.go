package dict_test

import (
	"iter"
	"math"
	"math/rand"
	"slices"
	"strings"
	"testing"
	"unsafe"

	"concord/api"
	"concord/dict"
)

// numbered is a step of a Walk.
type numbered struct {
	i int
	e api.Entry
}

// upTo goes over at most so many steps.
func upTo(seq iter.Seq2[int, api.Entry], most int) []numbered {
	var list []numbered
	if most == 0 {
		return nil
	}
	for i, e := range seq {
		list = append(list, numbered{i, e})
		if len(list) == most {
			break
		}
	}
	return list
}

func stepsFrom(entries []api.Entry, first int) []numbered {
	var list []numbered
	for i, e := range entries {
		if i >= first {
			list = append(list, numbered{i, e})
		}
	}
	return list
}

// outside are numbers of which no dictionary of n entries has an entry.
func outside(n int) []int {
	return []int{math.MinInt, math.MinInt + 1, -1 << 32, -1000, -16, -2, -1, n, n + 1, n + 15, n + 16, n + 1000, 1 << 31, 1 << 32, math.MaxInt - 1, math.MaxInt}
}

// probes are texts to ask for: the keys, texts that are just below and above them, their heads, and others.
func probes(entries []api.Entry) []string {
	list := []string{"", "\x00", "\xff", "m", "\x7f", "\x80", strings.Repeat("\x00", 66), strings.Repeat("\xff", 66), strings.Repeat("k", 1000), strings.Repeat("\xff", 5000)}
	for _, e := range entries {
		key := []byte(e.Key)
		list = append(list, e.Key, e.Key+"\x00", e.Key+"\xff", e.Key+e.Key, e.Key[1:], "\x00"+e.Key)
		for n := range key {
			if n < 4 || n > len(key)-3 {
				list = append(list, e.Key[:n], e.Key[:n]+"\x00", e.Key[:n]+"\xff")
			}
		}
		last := len(key) - 1
		for _, by := range []byte{1, 255} {
			near := slices.Clone(key)
			near[last] += by
			list = append(list, string(near), string(near)+"\xff")
		}
	}
	return list
}

// holdSearch holds the three searches for one text against a search from the first entry on, and against their promise.
func holdSearch(t *testing.T, d *dict.Dict, entries []api.Entry, text string) {
	t.Helper()
	i, ok := d.Find(text)
	wantI, wantOk := modelFind(entries, text)
	if i != wantI || ok != wantOk {
		t.Fatalf("Find(%q) is %d and %v, not %d and %v", text, i, ok, wantI, wantOk)
	}
	seek := d.Seek(text)
	if want := modelSeek(entries, text); seek != want {
		t.Fatalf("Seek(%q) is %d, not %d", text, seek, want)
	}
	from, to := d.Heads(text)
	if a, b := modelHeads(entries, text); from != a || to != b {
		t.Fatalf("Heads(%q) is %d and %d, not %d and %d", text, from, to, a, b)
	}
	for k, e := range entries {
		if (e.Key >= text) != (k >= seek) {
			t.Fatalf("Seek(%q) is %d, and the entry %d is %q", text, seek, k, e.Key)
		}
		if strings.HasPrefix(e.Key, text) != (from <= k && k < to) {
			t.Fatalf("Heads(%q) is %d and %d, and the entry %d is %q", text, from, to, k, e.Key)
		}
		if (e.Key == text) != (ok && i == k) {
			t.Fatalf("Find(%q) is %d and %v, and the entry %d is %q", text, i, ok, k, e.Key)
		}
	}
}

// holdDict holds all calls of the Dict of these entries against the model.
func holdDict(t *testing.T, entries []api.Entry) {
	t.Helper()
	d := mustOpen(t, entries)
	n := len(entries)
	if d.Len() != n || d.Blocks() != len(toldOf(entries)) {
		t.Fatalf("Len is %d and Blocks %d of %d entries", d.Len(), d.Blocks(), n)
	}
	for i, want := range entries {
		if e, ok := d.At(i); !ok || e != want {
			t.Fatalf("At(%d) is %v and %v, not %v", i, e, ok, want)
		}
	}
	for _, i := range outside(n) {
		if e, ok := d.At(i); ok || e != (api.Entry{}) {
			t.Fatalf("At(%d) of %d entries is %v and %v", i, n, e, ok)
		}
		if got := upTo(d.Walk(i), -1); !slices.Equal(got, stepsFrom(entries, i)) {
			t.Fatalf("Walk(%d) of %d entries gives %v", i, n, got)
		}
	}
	for i := range n {
		if got := upTo(d.Walk(i), -1); !slices.Equal(got, stepsFrom(entries, i)) {
			t.Fatalf("Walk(%d) gives %v", i, got)
		}
	}
	for _, text := range probes(entries) {
		holdSearch(t, d, entries, text)
	}
}

// P6.1: the chapter's examples.
func TestDictExamples(t *testing.T) {
	entries := []api.Entry{{Key: "ab", Docs: 1, Total: 2, At: 0, Size: 5}, {Key: "abd", Docs: 1, Total: 1, At: 5, Size: 130}}
	d := mustOpen(t, entries)
	if d.Len() != 2 || d.Blocks() != 1 {
		t.Error("Len and Blocks are", d.Len(), d.Blocks())
	}
	for _, row := range []struct {
		text           string
		find           int
		ok             bool
		seek, from, to int
	}{
		{"", 0, false, 0, 0, 2},
		{"a", 0, false, 0, 0, 2},
		{"ab", 0, true, 0, 0, 2},
		{"abc", 0, false, 1, 1, 1},
		{"abd", 1, true, 1, 1, 2},
		{"abd\x00", 0, false, 2, 2, 2},
		{"ac", 0, false, 2, 2, 2},
		{"b", 0, false, 2, 2, 2},
	} {
		if i, ok := d.Find(row.text); i != row.find || ok != row.ok {
			t.Errorf("Find(%q) is %d and %v", row.text, i, ok)
		}
		if i := d.Seek(row.text); i != row.seek {
			t.Errorf("Seek(%q) is %d", row.text, i)
		}
		if from, to := d.Heads(row.text); from != row.from || to != row.to {
			t.Errorf("Heads(%q) is %d and %d", row.text, from, to)
		}
	}
	if got := upTo(d.Walk(1), -1); !slices.Equal(got, []numbered{{1, entries[1]}}) {
		t.Errorf("Walk(1) gives %v", got)
	}
	empty := mustOpen(t, nil)
	from, to := empty.Heads("")
	if empty.Len() != 0 || empty.Blocks() != 0 || empty.Seek("a") != 0 || from != 0 || to != 0 {
		t.Error("the empty dictionary has something")
	}
	holdDict(t, entries)
	holdDict(t, nil)
}

// P6.1: the numbers of entries around a block's end.
func TestDictBlocks(t *testing.T) {
	for n, blocks := range map[int]int{0: 0, 1: 1, 15: 1, 16: 1, 17: 2, 31: 2, 32: 2, 33: 3, 160: 10, 161: 11} {
		if d := mustOpen(t, counted(n)); d.Len() != n || d.Blocks() != blocks {
			t.Errorf("Len is %d and Blocks %d of %d entries", d.Len(), d.Blocks(), n)
		}
	}
}

// P6.1, P6.2, P6.3
func TestDictOfManyKinds(t *testing.T) {
	for _, entries := range named() {
		holdDict(t, entries)
	}
}

// P6.3: all texts of up to 4 bytes out of four, against made keys of the same bytes.
func TestSearchesForAllShortTexts(t *testing.T) {
	alphabet := "\x00a\xfe\xff"
	texts := append(allKeys(4, alphabet), "")
	dice := rand.New(rand.NewSource(63))
	for _, n := range []int{0, 1, 2, 5, 16, 17, 40, 90} {
		entries := entriesOf(madeKeys(dice, n, 4, alphabet)...)
		d := mustOpen(t, entries)
		for _, text := range texts {
			holdSearch(t, d, entries, text)
		}
	}
}

// P6.3: keys without a gap: every key is asked for, and every text between two.
func TestSearchesOverAllKeys(t *testing.T) {
	entries := entriesOf(allKeys(3, "\x00\x01\xff")...)
	d := mustOpen(t, entries)
	for _, text := range append(allKeys(5, "\x00\x01\xff"), "") {
		holdSearch(t, d, entries, text)
	}
}

// P6.3: texts of any length, beside keys that are as long as may be.
func TestSearchesForLongTexts(t *testing.T) {
	entries := entriesOf(strings.Repeat("k", 63), strings.Repeat("k", 64), strings.Repeat("k", 65), strings.Repeat("k", 64)+"\xff")
	d := mustOpen(t, entries)
	for n := range 200 {
		for _, tail := range []string{"", "\x00", "j", "l", "\xff"} {
			holdSearch(t, d, entries, strings.Repeat("k", n)+tail)
		}
	}
	holdSearch(t, d, entries, strings.Repeat("k", 1<<20))
}

// P6.3: many entries.
func TestSearchesOverManyEntries(t *testing.T) {
	entries := counted(3000)
	d := mustOpen(t, entries)
	for i, e := range entries {
		if k, ok := d.Find(e.Key); k != i || !ok {
			t.Fatalf("Find(%q) is %d and %v", e.Key, k, ok)
		}
		if k := d.Seek(e.Key + "\x00"); k != i+1 {
			t.Fatalf("Seek behind %q is %d", e.Key, k)
		}
	}
	for i := range 30 {
		head := entries[100*i].Key[:5]
		if from, to := d.Heads(head); from != 100*i || to != 100*i+100 {
			t.Fatalf("Heads(%q) is %d and %d", head, from, to)
		}
	}
}

// P6.1: a Walk stopped at each place, and gone over again.
func TestWalkAnyNumberOfTimes(t *testing.T) {
	for _, n := range []int{0, 1, 2, 15, 16, 17, 33} {
		entries := counted(n)
		d := mustOpen(t, entries)
		for _, first := range []int{math.MinInt, -1, 0, 1, 14, 15, 16, 17, n - 1, n, n + 1, math.MaxInt} {
			seq := d.Walk(first)
			want := stepsFrom(entries, first)
			for most := range len(want) + 1 {
				if got := upTo(seq, most); !slices.Equal(got, want[:most]) {
					t.Fatalf("Walk(%d) stopped behind %d gives %v", first, most, got)
				}
			}
			for range 2 {
				if got := upTo(seq, -1); !slices.Equal(got, want) {
					t.Fatalf("Walk(%d) gone over again gives %v", first, got)
				}
			}
		}
	}
}

// P6.1: one Walk inside another, and two pulled by turns.
func TestWalkInsideWalk(t *testing.T) {
	entries := counted(20)
	d := mustOpen(t, entries)
	seq := d.Walk(3)
	for i, e := range seq {
		if e != entries[i] {
			t.Fatalf("the outer Walk gives %v at %d", e, i)
		}
		if got := upTo(seq, -1); !slices.Equal(got, stepsFrom(entries, 3)) {
			t.Fatalf("the inner Walk gives %v", got)
		}
		if k, ok := d.Find(e.Key); k != i || !ok {
			t.Fatalf("Find inside a Walk is %d and %v", k, ok)
		}
	}
	next1, stop1 := iter.Pull2(seq)
	next2, stop2 := iter.Pull2(seq)
	defer stop2()
	for at := 3; at < 10; at++ {
		i, e, ok1 := next1()
		k, f, ok2 := next2()
		if !ok1 || !ok2 || i != at || k != at || e != entries[at] || f != entries[at] {
			t.Fatalf("two Walks pulled by turns give %d %v and %d %v", i, e, k, f)
		}
	}
	stop1()
	if i, _, ok := next2(); i != 10 || !ok {
		t.Fatalf("a Walk is stopped by another: %d", i)
	}
}

// sameMemory tells whether two texts begin in one place of memory.
func sameMemory(a, b string) bool {
	return unsafe.StringData(a) == unsafe.StringData(b)
}

// P6.1: each answer's key is memory of its own.
func TestKeysShareNothing(t *testing.T) {
	d := mustOpen(t, entriesOf("ab", "abc", "b", strings.Repeat("k", 65)))
	for i := range d.Len() {
		first, _ := d.At(i)
		second, _ := d.At(i)
		walked := upTo(d.Walk(i), 1)[0].e
		again := upTo(d.Walk(i), 1)[0].e
		keys := []string{first.Key, second.Key, walked.Key, again.Key}
		for a := range keys {
			for b := range a {
				if keys[a] != keys[b] || sameMemory(keys[a], keys[b]) {
					t.Errorf("two answers share the key %q", keys[a])
				}
			}
		}
	}
}

// P6.1: a text that is asked for isn't kept.
func TestTextsAskedForAreNotKept(t *testing.T) {
	entries := counted(20)
	d := mustOpen(t, entries)
	lent := []byte("key0007")
	text := unsafe.String(&lent[0], len(lent))
	d.Find(text)
	d.Seek(text)
	d.Heads(text)
	copy(lent, "zzzzzzz")
	if !slices.Equal(entriesIn(t, d), entries) {
		t.Error("the Dict kept a text that was asked for")
	}
	if i, ok := d.Find("key0007"); i != 7 || !ok {
		t.Error("Find is", i, ok)
	}
}

// P6.1: the keys that Build is given may be written over behind the call.
func TestKeysGivenAreNotKept(t *testing.T) {
	lent := []byte("some key")
	image := mustBuild(t, []api.Entry{{Key: unsafe.String(&lent[0], len(lent))}})
	copy(lent, "zzzz zzz")
	d, err := dict.Open(image)
	if err != nil {
		t.Fatal(err)
	}
	if e, _ := d.At(0); e.Key != "some key" {
		t.Errorf("the key is %q", e.Key)
	}
}

func FuzzDict(f *testing.F) {
	f.Add("a ab abc b", "ab")
	f.Add("\x00 \x00\x00 \xff", "\x00")
	f.Add("", "")
	f.Fuzz(func(t *testing.T, keys, text string) {
		var good []string
		for _, key := range strings.Split(keys, " ") {
			if len(key) >= 1 && len(key) <= 65 {
				good = append(good, key)
			}
		}
		entries := entriesOf(good...)
		holdBuild(t, entries)
		holdDict(t, entries)
		holdSearch(t, mustOpen(t, entries), entries, text)
	})
}
