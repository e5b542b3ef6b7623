package auto_test

import (
	"fmt"
	"iter"
	"math/rand"
	"slices"
	"strings"
	"testing"
	"unsafe"

	"concord/api"
	"concord/dict"
)

// opened is a dictionary of these keys, in any order, and its entries.
func opened(t testing.TB, keys ...string) (*dict.Dict, []api.Entry) {
	t.Helper()
	keys = slices.DeleteFunc(slices.Clone(keys), func(key string) bool { return key == "" || len(key) > 65 })
	slices.Sort(keys)
	var entries []api.Entry
	for i, key := range slices.Compact(keys) {
		entries = append(entries, api.Entry{Key: key, Docs: i + 1, Total: 2 * i, At: 1000 - i%1000, Size: 7})
	}
	image, err := dict.Build(entries)
	if err != nil {
		t.Fatal(err)
	}
	d, err := dict.Open(image)
	if err != nil {
		t.Fatal(err)
	}
	return d, entries
}

// numbered is a step of Terms.
type numbered struct {
	i int
	e api.Entry
}

// modelTerms asks each key by itself.
func (x told) terms(entries []api.Entry, head string) []numbered {
	var list []numbered
	for i, e := range entries {
		if rest, ok := strings.CutPrefix(e.Key, head); ok && x.accepts(rest) {
			list = append(list, numbered{i, e})
		}
	}
	return list
}

// upTo goes over at most so many steps, one at least.
func upTo(seq iter.Seq2[int, api.Entry], most int) []numbered {
	var list []numbered
	for i, e := range seq {
		list = append(list, numbered{i, e})
		if len(list) == most {
			break
		}
	}
	return list
}

func holdTerms(t testing.TB, x told, d *dict.Dict, entries []api.Entry, head string) int {
	t.Helper()
	got := upTo(x.made(t).Terms(d, head), -1)
	if want := x.terms(entries, head); !slices.Equal(got, want) {
		t.Fatalf("%v: Terms behind %q over %d entries gives %v, not %v", x, head, len(entries), got, want)
	}
	return len(got)
}

// P7.4: by hand.
func TestTermsRows(t *testing.T) {
	d, entries := opened(t, "\x00ab", "\x00abc", "\x00b", "\x01", "\x01ab", "\x01abd", "\x01b", "\x02ab", "\xff", "\xff\xff", "\xff\xffa")
	for _, row := range []struct {
		x    told
		head string
		want []int
	}{
		{heading("ab"), "\x01", []int{4, 5}},
		{heading("ab"), "\x00", []int{0, 1}},
		{heading(""), "\x01", []int{3, 4, 5, 6}},
		{heading(""), "", []int{0, 1, 2, 3, 4, 5, 6, 7, 8, 9, 10}},
		{heading("\x01"), "", []int{3, 4, 5, 6}},
		{exactly(""), "\x01", []int{3}},
		{exactly(""), "\x00", nil},
		{exactly(""), "", nil},
		{exactly("\x01ab"), "", []int{4}},
		{wildly("?b"), "", []int{2, 6}},
		{wildly("?b"), "\x02", []int{7}},
		{wildly("*b*"), "\x01", []int{4, 5, 6}},
		{nearly("ab", 1), "\x01", []int{4, 5, 6}},
		{between(in("ab"), out("b")), "\x01", []int{4, 5}},
		{between(out("ab"), in("b")), "\x01", []int{5, 6}},
		{between(out("b"), in("b")), "\x01", nil},
		{heading(""), "\xff", []int{8, 9, 10}},
		{heading(""), "\xff\xff", []int{9, 10}},
		{heading(""), "\xff\xff\xff", nil},
		{heading(""), "\x03", nil},
		{heading(""), "\x01abde", nil},
		{exactly(""), "\x01abd", []int{5}},
		{exactly("\xff"), "\xff", []int{9}},
		{heading("a"), strings.Repeat("\xff", 100), nil},
	} {
		var got []int
		for i, e := range row.x.made(t).Terms(d, row.head) {
			got = append(got, i)
			if e != entries[i] {
				t.Errorf("%v behind %q: the entry %d is %v", row.x, row.head, i, e)
			}
		}
		if !slices.Equal(got, row.want) {
			t.Errorf("%v behind %q gives %v, not %v", row.x, row.head, got, row.want)
		}
	}
}

// P7.4: every automaton over many dictionaries and heads.
func TestTermsAll(t *testing.T) {
	dice := rand.New(rand.NewSource(78))
	lists := [][]string{
		nil,
		{"a"},
		{"\xff"},
		allTexts(4, "ab"),
		allTexts(3, "\x00a\xff"),
		{"x", "xa", "xaa", "xab", "xb", "y"},
	}
	for _, alphabet := range []string{"ab\x00", "\xfe\xff", "abc*?\\"} {
		var keys []string
		for range 60 {
			keys = append(keys, madeText(dice, 8, alphabet))
		}
		lists = append(lists, keys)
	}
	heads := []string{"", "a", "ab", "b", "x", "\x00", "\xff", "\xff\xff", "\xfe", "c", "aba", "abab", strings.Repeat("\xff", 70)}
	found := 0
	for _, keys := range lists {
		d, entries := opened(t, keys...)
		for _, x := range allTold() {
			for _, head := range heads {
				found += holdTerms(t, x, d, entries, head)
			}
		}
	}
	if found < 10000 {
		t.Errorf("only %d terms were found", found)
	}
}

// P7.4: made automata over keys made for them, of up to 65 bytes.
func TestTermsMade(t *testing.T) {
	dice := rand.New(rand.NewSource(79))
	for range 300 {
		x := madeTold(dice, 6, "ab\xff")
		head := madeText(dice, 2, "\x00\xff")
		keys := allTexts(2, "\x00\xffa")
		for range 60 {
			rest := edited(dice, strings.ReplaceAll(x.text, "*", "ab"), dice.Intn(3), "ab\xff")
			keys = append(keys, head+rest, head+rest+"a", rest, "\x00"+rest, head+strings.Repeat("a", dice.Intn(64))+"b")
		}
		d, entries := opened(t, keys...)
		holdTerms(t, x, d, entries, head)
		holdTerms(t, x, d, entries, "")
		holdTerms(t, x, d, entries, keys[dice.Intn(len(keys))])
	}
}

// P7.4: a large dictionary.
func TestTermsMany(t *testing.T) {
	var keys []string
	for i := range 30000 {
		keys = append(keys, fmt.Sprintf("\x01w%05d", i), fmt.Sprintf("\x02%d", i))
	}
	d, entries := opened(t, keys...)
	for _, x := range []told{heading("w12"), exactly("w29999"), wildly("*99"), wildly("w?00??"), nearly("w12345", 1), between(in("w00100"), out("w00200")), heading("")} {
		for _, head := range []string{"\x01", "\x02", "", "\x03"} {
			holdTerms(t, x, d, entries, head)
		}
	}
}

// P7.4: gone over whole, stopped at each place, gone over again, nested and pulled.
func TestTermsAgain(t *testing.T) {
	d, entries := opened(t, allTexts(4, "ab\xff")...)
	for _, x := range []told{heading(""), heading("b"), wildly("*a?"), nearly("ab", 1), between(in("a"), out("b")), exactly("a"), exactly("zz")} {
		for _, head := range []string{"", "a", "\xff"} {
			seq := x.made(t).Terms(d, head)
			want := x.terms(entries, head)
			for n := 1; n <= len(want)+1; n++ {
				if got := upTo(seq, n); !slices.Equal(got, want[:min(n, len(want))]) {
					t.Fatalf("%v: stopped at %d: %v", x, n, got)
				}
			}
			outer := 0
			for i, e := range seq {
				if (numbered{i, e}) != want[outer] {
					t.Fatalf("%v: the step %d is %d", x, outer, i)
				}
				if got := upTo(seq, -1); !slices.Equal(got, want) {
					t.Fatalf("%v: gone over within: %v", x, got)
				}
				outer++
			}
			if outer != len(want) {
				t.Fatalf("%v: %d steps, not %d", x, outer, len(want))
			}
			holdPulled(t, x, seq, want)
		}
	}
}

func holdPulled(t *testing.T, x told, seq iter.Seq2[int, api.Entry], want []numbered) {
	t.Helper()
	next1, stop1 := iter.Pull2(seq)
	next2, stop2 := iter.Pull2(seq)
	defer stop2()
	for k, w := range want {
		i, e, ok := next1()
		if !ok || (numbered{i, e}) != w {
			t.Fatalf("%v: the step %d pulled is %d", x, k, i)
		}
		if k%2 == 0 {
			i, e, ok = next2()
			if !ok || (numbered{i, e}) != want[k/2] {
				t.Fatalf("%v: the step %d pulled beside is %d", x, k/2, i)
			}
		}
	}
	if _, _, ok := next1(); ok {
		t.Fatalf("%v: too many steps", x)
	}
	stop1()
}

// P7.4: an automaton serves many dictionaries, and a dictionary many automata.
func TestTermsShared(t *testing.T) {
	first, entries1 := opened(t, allTexts(3, "ab")...)
	second, entries2 := opened(t, allTexts(3, "bc")...)
	x, y := wildly("*b"), heading("b")
	a, b := x.made(t), y.made(t)
	seqs := []iter.Seq2[int, api.Entry]{a.Terms(first, ""), a.Terms(second, "b"), b.Terms(first, "a"), b.Terms(second, "")}
	wants := [][]numbered{x.terms(entries1, ""), x.terms(entries2, "b"), y.terms(entries1, "a"), y.terms(entries2, "")}
	for range 2 {
		for i, seq := range seqs {
			if got := upTo(seq, -1); !slices.Equal(got, wants[i]) {
				t.Errorf("%d gives %v, not %v", i, got, wants[i])
			}
		}
	}
}

// P7.4: what is gone over doesn't see the head written over, and each key is its own.
func TestTermsSharesNothing(t *testing.T) {
	d, entries := opened(t, allTexts(4, "ab")...)
	x := wildly("*b*")
	head, memory := lent("ab")
	seq := x.made(t).Terms(d, head)
	wipe(memory)
	want := x.terms(entries, "ab")
	first, second := upTo(seq, -1), upTo(seq, -1)
	if !slices.Equal(first, want) || !slices.Equal(second, want) {
		t.Fatalf("Terms sees its head written over: %v", first)
	}
	places := map[*byte]bool{}
	for _, step := range append(first, second...) {
		place := unsafe.StringData(step.e.Key)
		if places[place] {
			t.Errorf("two keys %q share memory", step.e.Key)
		}
		places[place] = true
	}
}

func FuzzTerms(f *testing.F) {
	f.Add("a b ab abb ba", "a", "*b")
	f.Add("\xff \xff\xff", "\xff", "?")
	f.Fuzz(func(t *testing.T, keys, head, pattern string) {
		if _, ok := modelElements(pattern); !ok || strings.Count(pattern, "*") > 5 || len(keys) > 300 {
			return
		}
		d, entries := opened(t, strings.Split(keys, " ")...)
		holdTerms(t, wildly(pattern), d, entries, head)
		holdTerms(t, nearly(pattern, 1), d, entries, head)
		holdTerms(t, between(in(pattern), out(head)), d, entries, "")
	})
}
