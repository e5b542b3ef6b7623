package auto_test

import (
	"math"
	"math/rand"
	"strings"
	"testing"

	"concord/auto"
)

// holdEdits holds Edits with every sort of most against the number of edits.
func holdEdits(t testing.TB, a, b string, want int) {
	t.Helper()
	for _, most := range []int{math.MinInt, math.MinInt + 1, -1 << 32, -2, -1, 0, 1, 2, 3, want - 2, want - 1, want, want + 1, len(a), len(b), len(a) + len(b), 1 << 31, 1 << 32, math.MaxInt - 1, math.MaxInt} {
		expected := want
		if expected > max(most, 0) {
			expected = max(most, 0) + 1
		}
		if got := auto.Edits(a, b, most); got != expected {
			t.Fatalf("Edits(%.100q, %.100q, %d) = %d, want %d", a, b, most, got, expected)
		}
		if got := auto.Edits(b, a, most); got != expected {
			t.Fatalf("Edits(%.100q, %.100q, %d) = %d, want %d", b, a, most, got, expected)
		}
	}
}

// P7.5: the chapter's examples, and their kin.
func TestEditsRows(t *testing.T) {
	for _, x := range []struct {
		a, b    string
		most, n int
	}{
		{"kitten", "sitting", 5, 3},
		{"kitten", "sitting", 3, 3},
		{"kitten", "sitting", 2, 3},
		{"kitten", "sitting", 1, 2},
		{"kitten", "sitting", 0, 1},
		{"a", "b", -7, 1},
		{"", "", -7, 0},
		{"", "", 0, 0},
		{"a", "a", -1, 0},
		{"a", "b", 0, 1},
		{"a", "b", 1, 1},
		{"", "abc", 9, 3},
		{"abc", "", 2, 3},
		{"abc", "", 1, 2},
		{"ab", "ba", 9, 2},
		{"ab", "ba", 1, 2},
		{"é", "e", 5, 2},
		{"é", "è", 5, 1},
		{"\x00", "\xff", 5, 1},
		{"\x00", "\x00\x00", 5, 1},
		{"x", "y", math.MaxInt, 1},
		{"x", "y", math.MinInt, 1},
		{"rad", "dog", 2, 3},
		{"rad", "red", 2, 1},
	} {
		if n := auto.Edits(x.a, x.b, x.most); n != x.n {
			t.Errorf("Edits(%q, %q, %d) = %d, want %d", x.a, x.b, x.most, n, x.n)
		}
		holdEdits(t, x.a, x.b, modelEdits(x.a, x.b))
	}
}

// oneEdit are all texts that one edit makes of s, out of the alphabet.
func oneEdit(s, alphabet string) []string {
	var list []string
	for i := range len(s) + 1 {
		for k := range alphabet {
			list = append(list, s[:i]+alphabet[k:k+1]+s[i:])
			if i < len(s) {
				list = append(list, s[:i]+alphabet[k:k+1]+s[i+1:])
			}
		}
		if i < len(s) {
			list = append(list, s[:i]+s[i+1:])
		}
	}
	return list
}

// P7.5: the least number of edits by definition: from text to text, one edit after the other. (A byte that the other text doesn't have is no use.)
func TestEditsByDefinition(t *testing.T) {
	const most, alphabet = 4, "abc"
	for _, a := range allTexts(most, alphabet) {
		numbers := map[string]int{a: 0}
		for ring := []string{a}; len(ring) > 0; {
			var next []string
			for _, s := range ring {
				for _, other := range oneEdit(s, alphabet) {
					if _, ok := numbers[other]; !ok && len(other) <= most {
						numbers[other] = numbers[s] + 1
						next = append(next, other)
					}
				}
			}
			ring = next
		}
		for b, n := range numbers {
			for _, limit := range []int{-1, n - 1, n, 9} {
				want := n
				if n > max(limit, 0) {
					want = max(limit, 0) + 1
				}
				if got := auto.Edits(a, b, limit); got != want {
					t.Fatalf("Edits(%q, %q, %d) = %d, want %d", a, b, limit, got, want)
				}
			}
			if modelEdits(a, b) != n {
				t.Fatalf("the model has %d edits between %q and %q, not %d", modelEdits(a, b), a, b, n)
			}
		}
	}
}

// P7.5: made texts, near to one another and far.
func TestEditsMade(t *testing.T) {
	dice := rand.New(rand.NewSource(75))
	for _, alphabet := range []string{"ab", "abcdefgh", "\x00a\xff"} {
		for range 2000 {
			a, b := madeText(dice, 30, alphabet), madeText(dice, 30, alphabet)
			holdEdits(t, a, b, modelEdits(a, b))
			b = edited(dice, a, dice.Intn(6), alphabet)
			holdEdits(t, a, b, modelEdits(a, b))
		}
	}
}

// P7.1, P7.5: Fuzzy accepts just the texts that Edits puts so near.
func TestEditsAndFuzzy(t *testing.T) {
	texts := allTexts(5, "ab")
	for _, word := range allTexts(4, "ab") {
		for edits := range 3 {
			a := nearly(word, edits).made(t)
			for _, s := range texts {
				if a.Accepts(s) != (auto.Edits(word, s, edits) <= edits) {
					t.Fatalf("Fuzzy(%q, %d) and Edits disagree over %q", word, edits, s)
				}
			}
		}
	}
}

// P7.5: long texts.
func TestEditsLong(t *testing.T) {
	const n = 200000
	long := strings.Repeat("abc", n/3)
	n3 := len(long)
	for _, x := range []struct {
		a, b    string
		most, n int
	}{
		{long, long, 0, 0},
		{long, long, 3, 0},
		{long, long + "x", 2, 1},
		{long, long[1:], 2, 1},
		{long, long[3:] + "xyz", 6, 3},
		{long, long[3:] + "xyz", 2, 3},
		{long, "xy" + long[3:] + "xy", 9, 5},
		{long, "xy" + long[3:] + "xy", 4, 5},
		{long, "", math.MaxInt, n3},
		{"", long, math.MaxInt, n3},
		{"", long, n3 - 1, n3},
		{long, "", 5, 6},
		{strings.Repeat("a", 3000), strings.Repeat("b", 3000), math.MaxInt, 3000},
		{strings.Repeat("a", 3000), strings.Repeat("b", 2000), 2998, 2999},
	} {
		if got := auto.Edits(x.a, x.b, x.most); got != x.n {
			t.Errorf("Edits(%.10q, %.10q, %d) = %d, want %d", x.a, x.b, x.most, got, x.n)
		}
	}
}

func FuzzEdits(f *testing.F) {
	f.Add("kitten", "sitting", 2)
	f.Add("", "", -7)
	f.Fuzz(func(t *testing.T, a, b string, most int) {
		if len(a) > 100 || len(b) > 100 {
			return
		}
		want := modelEdits(a, b)
		holdEdits(t, a, b, want)
		if want > max(most, 0) {
			want = max(most, 0) + 1
		}
		if got := auto.Edits(a, b, most); got != want {
			t.Fatalf("Edits(%q, %q, %d) = %d, want %d", a, b, most, got, want)
		}
	})
}
