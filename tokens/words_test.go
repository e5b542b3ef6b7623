package tokens_test

import (
	"math/rand"
	"slices"
	"strings"
	"testing"

	"concord/api"
	"concord/tokens"
)

func isWordByte(c byte) bool {
	return c >= 128 || strings.IndexByte(capitals+letters+"0123456789_", c) >= 0
}

// holdWords holds Words against the model, and against what the promise says of every byte.
func holdWords(t *testing.T, text string) {
	t.Helper()
	got := tokens.Words(text)
	if want := modelWords(text); !slices.Equal(got, want) {
		t.Fatalf("Words(%q) = %#v, want %#v", text, got, want)
	}
	at := 0
	for i, w := range got {
		if w.Pos != i || w.Value != 0 || w.Start < at || w.End <= w.Start || w.End > len(text) || w.Text != text[w.Start:w.End] {
			t.Fatalf("Words(%q): word %d is %#v", text, i, w)
		}
		holdBetween(t, text, at, w.Start)
		if !isWordByte(text[w.Start]) || !isWordByte(text[w.End-1]) {
			t.Fatalf("Words(%q): %#v begins or ends with a byte that is no word byte", text, w)
		}
		at = w.End
	}
	holdBetween(t, text, at, len(text))
}

// holdBetween: what stands between two words has no word byte.
func holdBetween(t *testing.T, text string, from, to int) {
	t.Helper()
	for i := from; i < to; i++ {
		if isWordByte(text[i]) {
			t.Fatalf("Words(%q): the word byte at %d is in no word", text, i)
		}
	}
}

// P5.1
func TestWordsRows(t *testing.T) {
	word := func(text string, pos, start int) api.Token {
		return api.Token{Text: text, Pos: pos, Start: start, End: start + len(text)}
	}
	rows := []struct {
		text string
		want []api.Token
	}{
		{"", nil},
		{" ", nil},
		{".", nil},
		{"'", nil},
		{"''", nil},
		{"...", nil},
		{"-;,!?", nil},
		{"a", []api.Token{word("a", 0, 0)}},
		{"_", []api.Token{word("_", 0, 0)}},
		{"\x80", []api.Token{word("\x80", 0, 0)}},
		{"it's 3.14, ok.", []api.Token{word("it's", 0, 0), word("3.14", 1, 5), word("ok", 2, 11)}},
		// marks at the beginning and the end
		{"'a'", []api.Token{word("a", 0, 1)}},
		{".1.", []api.Token{word("1", 0, 1)}},
		{"'a", []api.Token{word("a", 0, 1)}},
		{"a'", []api.Token{word("a", 0, 0)}},
		{"1.", []api.Token{word("1", 0, 0)}},
		{".1", []api.Token{word("1", 0, 1)}},
		{" 'a' ", []api.Token{word("a", 0, 2)}},
		// doubled, and beside one another
		{"a''b", []api.Token{word("a", 0, 0), word("b", 1, 3)}},
		{"1..2", []api.Token{word("1", 0, 0), word("2", 1, 3)}},
		{"1.'2", []api.Token{word("1", 0, 0), word("2", 1, 3)}},
		{"1'.2", []api.Token{word("1", 0, 0), word("2", 1, 3)}},
		{"a'b'c", []api.Token{word("a'b'c", 0, 0)}},
		{"1.2.3", []api.Token{word("1.2.3", 0, 0)}},
		{"1.2'3.4", []api.Token{word("1.2'3.4", 0, 0)}},
		{"1.2'a.4", []api.Token{word("1.2'a", 0, 0), word("4", 1, 6)}},
		// what a mark stands between
		{"1.b", []api.Token{word("1", 0, 0), word("b", 1, 2)}},
		{"b.1", []api.Token{word("b", 0, 0), word("1", 1, 2)}},
		{"a.b", []api.Token{word("a", 0, 0), word("b", 1, 2)}},
		{"1._", []api.Token{word("1", 0, 0), word("_", 1, 2)}},
		{"1.\x80", []api.Token{word("1", 0, 0), word("\x80", 1, 2)}},
		{"\x80.1", []api.Token{word("\x80", 0, 0), word("1", 1, 2)}},
		{"1'b", []api.Token{word("1'b", 0, 0)}},
		{"b'1", []api.Token{word("b'1", 0, 0)}},
		{"1'\xff", []api.Token{word("1'\xff", 0, 0)}},
		{"\x80'_", []api.Token{word("\x80'_", 0, 0)}},
		{"1' 2", []api.Token{word("1", 0, 0), word("2", 1, 3)}},
		{"1 .2", []api.Token{word("1", 0, 0), word("2", 1, 3)}},
		{"a1.2b", []api.Token{word("a1.2b", 0, 0)}},
		// other bytes
		{"a\x7fb", []api.Token{word("a", 0, 0), word("b", 1, 2)}},
		{"a\x00b", []api.Token{word("a", 0, 0), word("b", 1, 2)}},
		{"x-y_z", []api.Token{word("x", 0, 0), word("y_z", 1, 2)}},
		{"Ärger, naïve", []api.Token{word("Ärger", 0, 0), word("naïve", 1, 8)}},
		{"a’b", []api.Token{word("a’b", 0, 0)}},
	}
	for _, x := range rows {
		if got := tokens.Words(x.text); !slices.Equal(got, x.want) {
			t.Errorf("Words(%q) = %#v, want %#v", x.text, got, x.want)
		}
		holdWords(t, x.text)
	}
}

// P5.1: every byte alone, every two, and a mark between and around every two.
func TestWordsOfBytes(t *testing.T) {
	for a := range 256 {
		x := string([]byte{byte(a)})
		holdWords(t, x)
		if got := tokens.Words(x); (len(got) == 1) != isWordByte(byte(a)) || len(got) > 1 {
			t.Errorf("Words(%q) = %#v", x, got)
		}
		for b := range 256 {
			y := string([]byte{byte(b)})
			holdWords(t, x+y)
			holdWords(t, x+"'"+y)
			holdWords(t, x+"."+y)
		}
		for _, mark := range []string{"'", "."} {
			holdWords(t, mark+x)
			holdWords(t, x+mark)
			holdWords(t, mark+x+mark)
			holdWords(t, x+mark+mark+x)
			holdWords(t, "1"+mark+x+mark+"1")
		}
	}
}

// P5.1: bytes at the borders of their classes, in every order.
func TestWordsOfClasses(t *testing.T) {
	over([]string{"a", "Z", "0", "9", "_", "\x80", "\xff", "'", ".", " ", "/", "\x7f"}, 4, func(text string) {
		holdWords(t, text)
	})
	over([]string{"a", "5", "'", ".", " "}, 7, func(text string) {
		holdWords(t, text)
	})
}

// P5.1
func TestWordsOfLongTexts(t *testing.T) {
	dice := rand.New(rand.NewSource(51))
	for range 300 {
		b := make([]byte, dice.Intn(3000))
		for i := range b {
			if b[i] = byte(dice.Intn(256)); dice.Intn(3) > 0 {
				b[i] = "aZ09_'. "[dice.Intn(8)]
			}
		}
		holdWords(t, string(b))
	}
	long := strings.Repeat("a'1.5", 200000)
	if got := tokens.Words(long); len(got) != 1 || got[0] != (api.Token{Text: long, End: len(long)}) {
		t.Errorf("a long word: %d words", len(got))
	}
	many := strings.Repeat("b ", 200000)
	if got := tokens.Words(many); len(got) != 200000 || got[199999] != (api.Token{Text: "b", Pos: 199999, Start: 399998, End: 399999}) {
		t.Errorf("many words: %d words", len(got))
	}
}

func FuzzWords(f *testing.F) {
	f.Add("it's 3.14, ok.")
	f.Add("'1.2.3'\x80.")
	f.Fuzz(func(t *testing.T, text string) {
		holdWords(t, text)
	})
}
