package tokens_test

import (
	"math/rand"
	"slices"
	"strings"
	"testing"

	"concord/tokens"
)

// holdFold holds Fold against the model, and against what the promise says beside.
func holdFold(t *testing.T, word string) {
	t.Helper()
	got := tokens.Fold(word)
	if want := modelFold(word); got != want {
		t.Fatalf("Fold(%q) = %q, want %q", word, got, want)
	}
	if again := tokens.Fold(got); again != got {
		t.Fatalf("Fold(%q) = %q, and folded again it is %q", word, got, again)
	}
	if len(got) != len(word) {
		t.Fatalf("Fold(%q) = %q has another length", word, got)
	}
}

// P5.2
func TestFoldRows(t *testing.T) {
	rows := []struct{ word, want string }{
		{"", ""},
		{"AZ", "az"},
		{"az", "az"},
		{"@[`{", "@[`{"},
		{"Red FOX 3.14_", "red fox 3.14_"},
		{"ÀB×", "àb×"},
		{"ÖØÞß", "öøþß"},
		{"àöøþÿ", "àöøþÿ"},
		// the edges behind 195
		{"\xc3\x7f", "\xc3\x7f"},
		{"\xc3\x80", "\xc3\xa0"},
		{"\xc3\x96", "\xc3\xb6"},
		{"\xc3\x97", "\xc3\x97"},
		{"\xc3\x98", "\xc3\xb8"},
		{"\xc3\x9e", "\xc3\xbe"},
		{"\xc3\x9f", "\xc3\x9f"},
		{"\xc3\xa0", "\xc3\xa0"},
		{"\xc3A", "\xc3a"},
		{"\xc3", "\xc3"},
		// behind other bytes, and with others between
		{"\x80", "\x80"},
		{"\x80\xc3", "\x80\xc3"},
		{"\xc2\x80", "\xc2\x80"},
		{"\xc4\x80", "\xc4\x80"},
		{"A\x80", "a\x80"},
		{"\xc3 \x80", "\xc3 \x80"},
		{"\xc3\x80\x80", "\xc3\xa0\x80"},
		{"\xc3\xc3\x80", "\xc3\xc3\xa0"},
		{"\xc3\xc3\xc3", "\xc3\xc3\xc3"},
		{"\xc3\xc3\xc3\x9e", "\xc3\xc3\xc3\xbe"},
		{"\xc3\x80\xc3\x80", "\xc3\xa0\xc3\xa0"},
	}
	for _, x := range rows {
		if got := tokens.Fold(x.word); got != x.want {
			t.Errorf("Fold(%q) = %q, want %q", x.word, got, x.want)
		}
		holdFold(t, x.word)
	}
}

// P5.2: every byte, every two bytes, and every byte behind and between bytes 195.
func TestFoldOfBytes(t *testing.T) {
	for a := range 256 {
		x := string([]byte{byte(a)})
		holdFold(t, x)
		holdFold(t, "\xc3\xc3\xc3"+x)
		holdFold(t, "\xc3"+x+"\xc3"+x)
		holdFold(t, x+"\xc3\xc3"+x)
		for b := range 256 {
			y := string([]byte{byte(b)})
			holdFold(t, x+y)
			holdFold(t, "\xc3"+x+y)
		}
	}
}

// P5.2
func TestFoldOfLongTexts(t *testing.T) {
	dice := rand.New(rand.NewSource(52))
	for range 500 {
		b := make([]byte, dice.Intn(500))
		for i := range b {
			if b[i] = byte(dice.Intn(256)); dice.Intn(3) == 0 {
				b[i] = 195
			}
		}
		holdFold(t, string(b))
	}
}

// P5.3
func TestStopsIsTheList(t *testing.T) {
	got := tokens.Stops()
	if !slices.Equal(got, stops) {
		t.Errorf("Stops() = %q, want %q", got, stops)
	}
	for i := 1; i < len(got); i++ {
		if got[i-1] >= got[i] {
			t.Errorf("%q stands ahead of %q", got[i-1], got[i])
		}
	}
}

// P5.3: what is written into an answer isn't seen in another, nor by IsStop.
func TestStopsSharesNothing(t *testing.T) {
	one, two := tokens.Stops(), tokens.Stops()
	for i := range one {
		one[i] = "x"
	}
	_ = append(one[:3], "y")
	_ = append(one, "z")
	if !slices.Equal(two, stops) || !slices.Equal(tokens.Stops(), stops) {
		t.Error("an answer of Stops shows what was written into another")
	}
	if !tokens.IsStop("a") || !tokens.IsStop("you") || tokens.IsStop("x") {
		t.Error("IsStop goes by what was written into an answer of Stops")
	}
}

// nearStop are texts one byte away from a word.
func nearStop(word string) []string {
	list := []string{strings.ToUpper(word), strings.ToUpper(word[:1]) + word[1:], word + " ", " " + word, word + "\x00", word + "'s", word + word}
	for i := range len(word) + 1 {
		for c := range 256 {
			b := string([]byte{byte(c)})
			list = append(list, word[:i]+b+word[i:])
			if i < len(word) {
				list = append(list, word[:i]+b+word[i+1:])
			}
		}
	}
	for i := range len(word) {
		list = append(list, word[:i]+word[i+1:], word[:i], word[i:])
	}
	return list
}

// P5.3
func TestIsStop(t *testing.T) {
	if tokens.IsStop("") {
		t.Error("the empty text is a stop word")
	}
	for _, word := range stops {
		if !tokens.IsStop(word) {
			t.Errorf("IsStop(%q) is false", word)
		}
		for _, near := range nearStop(word) {
			if got := tokens.IsStop(near); got != slices.Contains(stops, near) {
				t.Errorf("IsStop(%q) is %v", near, got)
			}
		}
	}
	for _, word := range []string{"The", "AND", "fox", "zz", "\x00", "\xff", stopList, strings.Repeat("a", 5000)} {
		if tokens.IsStop(word) {
			t.Errorf("IsStop(%q) is true", word)
		}
	}
	over(strings.Split(letters, ""), 3, func(word string) {
		if got := tokens.IsStop(word); got != slices.Contains(stops, word) {
			t.Errorf("IsStop(%q) is %v", word, got)
		}
	})
}

func FuzzFold(f *testing.F) {
	f.Add("\xc3\x80B\xc3\x97")
	f.Add("\xc3\xc3\xc3\x9e")
	f.Fuzz(func(t *testing.T, word string) {
		holdFold(t, word)
	})
}
