package lexer_test

import (
	"math/rand"
	"strings"
	"testing"
	"unsafe"

	"concord/auto"
	"concord/lexer"
)

// holdBack holds Word, Quote and Pattern of a text against the model, and scans them again (P13.3).
func holdBack(t *testing.T, s string) {
	t.Helper()
	w := lexer.Word(s)
	if w != modelWord(s) {
		t.Fatalf("Word(%q) is %q, want %q", s, w, modelWord(s))
	}
	if s != "" {
		want(t, w, word(s, 0, len(w)))
	}
	q := lexer.Quote(s)
	if q != modelQuote(s) {
		t.Fatalf("Quote(%q) is %q, want %q", s, q, modelQuote(s))
	}
	want(t, q, quoted(s, 0, len(q)))
	p := lexer.Pattern(s)
	if p != modelPattern(s) {
		t.Fatalf("Pattern(%q) is %q, want %q", s, p, modelPattern(s))
	}
	if p != "" {
		want(t, p, pattern(modelCanonical(spelt(s)), 0, len(p)))
	}
}

// spelt is a pattern's text with each letter behind an escape, so that its canonical form is found from its elements.
func spelt(p string) string {
	list, _ := modelElements(p)
	return strings.Join(list, "")
}

// wantBack says what a text comes to by one of the three functions.
func wantBack(t *testing.T, name string, f func(string) string, rows map[string]string) {
	t.Helper()
	for s, want := range rows {
		if got := f(s); got != want {
			t.Errorf("%s(%q) is %q, want %q", name, s, got, want)
		}
		holdBack(t, s)
	}
}

// Functions: Word.
func TestWordRows(t *testing.T) {
	wantBack(t, "Word", lexer.Word, map[string]string{
		"": "", "a": "a", "-a:b": `\-a\:b`, "a-b": "a-b", "AND": `\AND`, "OR": `\OR`, "NOT": `\NOT`, "TO": `\TO`,
		"and": "and", "And": "And", "ANDY": "ANDY", "TOO": "TOO", "T": "T", "-OR": `\-OR`, "OR ": `OR\ `,
		"+": `\+`, "-": `\-`, "+-": `\+-`, "--": `\--`, "a+": "a+", "+a+": `\+a+`, ":-": `\:-`, "\\+": `\\+`,
		"*": `\*`, "a?b": `a\?b`, "\\": `\\`, "\\\\": `\\\\`, "a\\": `a\\`, " ": `\ `, "a b\tc\nd\re": "a\\ b\\\tc\\\nd\\\re",
		"()[]{}:|^~@\"": `\(\)\[\]\{\}\:\|\^\~\@\"`, "=1": "=1", "12": "12", "é\x00\xff": "é\x00\xff", "a.b,c;d/e'f#g&h!": "a.b,c;d/e'f#g&h!",
	})
}

// Functions: Quote.
func TestQuoteRows(t *testing.T) {
	wantBack(t, "Quote", lexer.Quote, map[string]string{
		"": `""`, "a": `"a"`, `"`: `"\""`, `\`: `"\\"`, `\"`: `"\\\""`, `""`: `"\"\""`, "a b": `"a b"`, "AND": `"AND"`, "OR": `"OR"`, "NOT": `"NOT"`, "TO": `"TO"`,
		"+a": `"+a"`, "-": `"-"`, "* ?": `"* ?"`, "()[]{}:|^~@": `"()[]{}:|^~@"`, "\t\n\r\x00\xff": "\"\t\n\r\x00\xff\"", `a\`: `"a\\"`, `a"`: `"a\""`,
	})
}

// Functions: Pattern.
func TestPatternRows(t *testing.T) {
	wantBack(t, "Pattern", lexer.Pattern, map[string]string{
		"": "", "ab": "", "+*a b": `\+*a\ b`, `\a*`: "a*", "*": "*", "?": "?", "**": "**", "AND": "", "OR": "", "NOT": "", "TO": "", "AND*": "AND*", "?TO": "?TO",
		`\*`: "", `a\?`: "", `\`: "", `*\`: "", `?a\`: "", `\\`: "", `*\\`: `*\\`, `*\\\`: "", `\\*`: `\\*`, `\*?`: `\*?`,
		"+*": `\+*`, `\+*`: `\+*`, "-?": `\-?`, `\-?`: `\-?`, "*+": "*+", "*-a": "*-a", `*\-`: "*-", "a-*": "a-*", "++*": `\++*`, "+": "", `\+`: "",
		" *": `\ *`, `\ *`: `\ *`, `*:("`: `*\:\(\"`, `\:*`: `\:*`, `\a\b\c?`: "abc?", "*\x00\xff": "*\x00\xff", "*\\\x00\\\xff": "*\x00\xff", "*^~@|[]{}": `*\^\~\@\|\[\]\{\}`, "1?": "1?",
	})
}

// Functions, P13.3: every byte, alone and beside others.
func TestBackOfEveryByte(t *testing.T) {
	for c := range 256 {
		b := string([]byte{byte(c)})
		for _, s := range []string{b, b + b, "a" + b, b + "a", "a" + b + "c", b + "*", "*" + b, "?" + b + "?", `\` + b, `\` + b + "*", `*\` + b, "*" + b + `\`, "AND" + b, b + "AND"} {
			holdBack(t, s)
		}
		if got := lexer.Word(b); (got == b) == strings.Contains(apart+"+-", b) {
			t.Errorf("Word(%q) is %q", b, got)
		}
		if got := lexer.Word("a" + b); (got == "a"+b) == strings.Contains(apart, b) {
			t.Errorf("Word(%q) is %q", "a"+b, got)
		}
	}
}

// P13.3: all short texts, and made ones.
func TestBackOfMany(t *testing.T) {
	for _, s := range allTexts(5, "*\\+ a") {
		holdBack(t, s)
	}
	for _, s := range allTexts(3, apart+"+-0aN") {
		holdBack(t, s)
	}
	for _, s := range allTexts(4, "ANDORT") {
		holdBack(t, s)
	}
	dice := rand.New(rand.NewSource(133))
	for range 20000 {
		holdBack(t, madeText(dice, 8))
		holdBack(t, madeBytes(dice, 20))
	}
	holdBack(t, strings.Repeat("a\"\\*", 3000))
}

// P13.3: a text is a pattern for Pattern just where it is one for an automaton, and what is scanned means the same.
func TestPatternMeansTheSame(t *testing.T) {
	texts := allTexts(3, "a*?\\+")
	for _, p := range allTexts(4, "a*?\\+") {
		run := lexer.Pattern(p)
		if !auto.Good(p) {
			if run != "" {
				t.Fatalf("Pattern(%q), which is none, is %q", p, run)
			}
			continue
		}
		if run == "" {
			continue
		}
		tokens, _, err := lexer.Scan(run)
		if err != nil {
			t.Fatalf("Pattern(%q) is %q: %v", p, run, err)
		}
		holdAlike(t, p, tokens[0].Text, texts)
	}
}

// holdAlike holds that two patterns match the same of these texts.
func holdAlike(t *testing.T, p, q string, texts []string) {
	t.Helper()
	a, err := auto.Wild(p)
	if err != nil {
		t.Fatal(err)
	}
	b, err := auto.Wild(q)
	if err != nil {
		t.Fatalf("%q comes from %q, and is no pattern", q, p)
	}
	for _, s := range texts {
		if a.Accepts(s) != b.Accepts(s) {
			t.Fatalf("%q matches %q, or %q does, not both", p, s, q)
		}
	}
}

// Rule 5: what is handed out is new memory.
func TestBackSharesNothing(t *testing.T) {
	const text = "abc*"
	b := []byte(text)
	lent := unsafe.String(&b[0], len(b))
	w, q, p := lexer.Word(lent[:3]), lexer.Quote(lent), lexer.Pattern(lent)
	b[0] = 'x'
	if w != "abc" || q != `"abc*"` || p != "abc*" {
		t.Errorf("with the text overwritten they are %q, %q and %q", w, q, p)
	}
	copy(b, "AND ")
	w = lexer.Word(lent[:3])
	copy(b, "####")
	if w != `\AND` {
		t.Errorf("with the text overwritten it is %q", w)
	}
}

// FuzzBack holds Word, Quote and Pattern against their models, there and back.
func FuzzBack(f *testing.F) {
	for _, p := range pieces {
		f.Add(p + "*" + p)
	}
	f.Fuzz(holdBack)
}
