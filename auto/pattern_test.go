package auto_test

import (
	"math/rand"
	"strings"
	"testing"
	"unsafe"

	"concord/api"
	"concord/auto"
)

// holdGood holds Good and Wild's error against the model.
func holdGood(t testing.TB, pattern string) {
	t.Helper()
	_, want := modelElements(pattern)
	if auto.Good(pattern) != want {
		t.Fatalf("Good(%q) is %v", pattern, !want)
	}
	a, err := auto.Wild(pattern)
	if want && (a == nil || err != nil) || !want && (a != nil || err != api.ErrPattern) {
		t.Fatalf("Wild(%q) answers %v and %v", pattern, a, err)
	}
}

// holdLiteral holds Literal against the model, and what the pattern matches.
func holdLiteral(t testing.TB, s string) {
	t.Helper()
	got := auto.Literal(s)
	want := strings.NewReplacer("*", "\\*", "?", "\\?", "\\", "\\\\").Replace(s)
	if got != want {
		t.Fatalf("Literal(%q) = %q, want %q", s, got, want)
	}
	if !auto.Good(got) {
		t.Fatalf("Literal(%q) = %q is no pattern", s, got)
	}
	a := wildly(got).made(t)
	if !a.Accepts(s) {
		t.Fatalf("Literal(%q) doesn't match it", s)
	}
	for _, other := range exactly(s).near() {
		if other != s && a.Accepts(other) {
			t.Fatalf("Literal(%q) matches %q", s, other)
		}
	}
}

// P7.5
func TestGoodRows(t *testing.T) {
	for pattern, want := range map[string]bool{
		"":           true,
		"a":          true,
		"*":          true,
		"?":          true,
		"**?":        true,
		"\\":         false,
		"a\\":        false,
		"\\a":        true,
		"\\\\":       true,
		"a\\\\":      true,
		"\\\\\\":     false,
		"\\\\\\\\":   true,
		"\\*":        true,
		"*\\":        false,
		"\\\\*":      true,
		"\\\\\\*":    true,
		"\x00\\":     false,
		"\\\x00":     true,
		"\\\xff":     true,
		"\xff\\":     false,
		"a\\b\\c\\":  false,
		"a\\b\\c\\d": true,
	} {
		if auto.Good(pattern) != want {
			t.Errorf("Good(%q) is %v", pattern, !want)
		}
		holdGood(t, pattern)
	}
	for n := range 20 {
		if auto.Good("a"+strings.Repeat("\\", n)) != (n%2 == 0) {
			t.Errorf("Good of %d of them", n)
		}
	}
	for _, pattern := range append(allTexts(6, "a*\\"), allTexts(3, "a*?\\\x00\xff")...) {
		holdGood(t, pattern)
	}
}

// P7.5
func TestLiteralRows(t *testing.T) {
	for s, want := range map[string]string{
		"":           "",
		"a":          "a",
		"*":          "\\*",
		"?":          "\\?",
		"\\":         "\\\\",
		"a*?\\b":     "a\\*\\?\\\\b",
		"\\*":        "\\\\\\*",
		"\\\\":       "\\\\\\\\",
		"é\x00\xff[": "é\x00\xff[",
		"a b.c+(d)^": "a b.c+(d)^",
	} {
		if got := auto.Literal(s); got != want {
			t.Errorf("Literal(%q) = %q, want %q", s, got, want)
		}
		holdLiteral(t, s)
	}
	for _, s := range allTexts(4, "a*?\\") {
		holdLiteral(t, s)
	}
	for b := range 256 {
		holdLiteral(t, string([]byte{byte(b)}))
		holdLiteral(t, string([]byte{'a', byte(b), 'b'}))
	}
}

// P7.5: made texts, short and long.
func TestLiteralMade(t *testing.T) {
	dice := rand.New(rand.NewSource(74))
	for range 2000 {
		holdLiteral(t, madeText(dice, 12, "a*?\\\x00\xff"))
	}
	long := strings.Repeat("*?\\a", 30000)
	if a := wildly(auto.Literal(long)).made(t); !a.Accepts(long) || a.Accepts(long+"a") || a.Accepts(long[1:]) {
		t.Error("Literal of a long text")
	}
}

// P7.5: what Literal answers shares nothing with its text, nor with another answer.
func TestLiteralSharesNothing(t *testing.T) {
	s, memory := lent("abc")
	first, second := auto.Literal(s), auto.Literal(s)
	if unsafe.StringData(first) == unsafe.StringData(second) {
		t.Error("two answers share memory")
	}
	wipe(memory)
	if first != "abc" || second != "abc" {
		t.Errorf("Literal sees its text written over: %q and %q", first, second)
	}
}

func FuzzPattern(f *testing.F) {
	for _, pattern := range patterns() {
		f.Add(pattern)
	}
	f.Fuzz(func(t *testing.T, s string) {
		holdGood(t, s)
		if len(s) < 200 {
			holdLiteral(t, s)
		}
	})
}
