package score_test

import (
	"math/rand"
	"strings"
	"testing"

	"concord/api"
	"concord/score"
)

// rows are the chapter's examples of texts, and others written out.
func rows() map[uint64]string {
	return map[uint64]string{
		0:             "0",
		1:             "0.000003814697265625",
		2:             "0.00000762939453125",
		3:             "0.000011444091796875",
		1 << 17:       "0.5",
		1 << 16:       "0.25",
		3 << 16:       "0.75",
		1<<18 - 1:     "0.999996185302734375",
		1 << 18:       "1",
		1<<18 + 1:     "1.000003814697265625",
		3 << 17:       "1.5",
		2 << 18:       "2",
		9 << 18:       "9",
		10 << 18:      "10",
		10<<18 + 512:  "10.001953125",
		100 << 18:     "100",
		205 << 17:     "102.5",
		1 << 28:       "1024",
		36046:         "0.13750457763671875",
		1 << 63:       "35184372088832",
		1<<63 - 1:     "35184372088831.999996185302734375",
		1<<64 - 1:     "70368744177663.999996185302734375",
		1<<64 - 2:     "70368744177663.99999237060546875",
		1<<64 - 1<<18: "70368744177663",
		1<<64 - 1<<17: "70368744177663.5",
	}
}

// P12.1, P12.5: written out, there and back.
func TestTextExamples(t *testing.T) {
	for x, want := range rows() {
		if text := score.Text(x); text != want {
			t.Errorf("Text(%d) is %q, not %q", x, text, want)
		}
		if y, err := score.Parse(want); y != x || err != nil {
			t.Errorf("Parse(%q) is %d and %v, not %d", want, y, err, x)
		}
	}
}

// holdText holds a score's text against the model, and against what Parse reads in it.
func holdText(t *testing.T, x uint64) {
	t.Helper()
	text := score.Text(x)
	if text != modelText(x) {
		t.Errorf("Text(%d) is %q, not %q", x, text, modelText(x))
	}
	if y, err := score.Parse(text); y != x || err != nil {
		t.Errorf("Parse(%q), the text of %d, is %d and %v", text, x, y, err)
	}
}

// P12.1, P12.5: every fraction, and whole scores of all sizes.
func TestTextOfManyScores(t *testing.T) {
	for rest := range uint64(1 << 18) {
		holdText(t, rest)
	}
	dice := rand.New(rand.NewSource(135))
	for _, x := range words() {
		holdText(t, x)
		holdText(t, x<<18)
		holdText(t, x>>18<<18)
		holdText(t, x<<17)
		holdText(t, x^uint64(dice.Intn(1<<18)))
	}
	for x := range uint64(2000) {
		holdText(t, greatest-x)
		holdText(t, x<<18)
		holdText(t, greatest>>18<<18-x<<18)
	}
}

// holdParse holds Parse of a text against the model, and against the Text of what it answers.
func holdParse(t *testing.T, text string) {
	t.Helper()
	x, err := score.Parse(text)
	want, ok := modelParse(text)
	switch {
	case ok && (x != want || err != nil):
		t.Errorf("Parse(%.60q) is %d and %v, not %d", text, x, err, want)
	case !ok && (x != 0 || err != api.ErrValue):
		t.Errorf("Parse(%.60q) is %d and %v", text, x, err)
	case ok && score.Text(x) != text:
		t.Errorf("Parse(%.60q) is %d, whose text is %q", text, x, score.Text(x))
	}
}

// refused are texts that no score has.
func refused() []string {
	const last = "70368744177663"
	return []string{
		"", ".", "..", "1.", "0.", ".5", ".0", "1..5", "1.5.", "1.5.5", "1,5", "1.5,",
		"01", "00", "000", "00.5", "01.5", "007", "1.50", "1.0", "0.0", "0.50", "0.00", "0.5000000000000000000000",
		"1.1", "0.1", "0.3", "0.000003814697265624", "0.000003814697265626", "0.0000038146972656250", "0.00000381469726562", "0.0000019073486328125",
		"0.000000000000000001", "0.0000000000000000001", "0.0000000000000000009", "0.999999999999999999", "0.9999999999999999999",
		"+1", "-1", "-0", "+0", "+0.5", "-0.5", "--1", "1-", "1+", "0.+5", "0.-5", "1.+", "0. 5",
		" 1", "1 ", "1.5 ", "\t1", "1\n", "1.5\n", "1 .5", "1. 5", "\x001", "1\x00", "1.5\x00",
		"1e3", "1E3", "1e0", "1.5e1", "0x10", "0X1", "0b1", "0o7", "1_0", "1_000", "0.5_0", "1f", "a", "Inf", "NaN", "inf", "nan", "one",
		"1/2", "1:", "0.:", "0./", "0.5:", "٣", "１", "0.５", "\xff", "0.\xff", "1.\xb5",
		"70368744177664", "70368744177664.5", "70368744177665", "99999999999999", "100000000000000", "703687441776630", "140737488355328", "140737488355329.5",
		"18446744073709551615", "18446744073709551616", "18446744073709551617", "18446744073709551616.5", "4835703278458516698824704", "99999999999999999999999",
		last + ".9999961853027343750", last + ".999996185302734376", last + ".9999999999", last + ".9999980926513671875", last + ".",
		strings.Repeat("0", 100), strings.Repeat("9", 1000), "1" + strings.Repeat("0", 5000), "0." + strings.Repeat("0", 5000) + "1", "0." + strings.Repeat("9", 5000), "1." + strings.Repeat("5", 5000),
	}
}

// P12.1: ErrValue, and 0 beside it.
func TestParseRefuses(t *testing.T) {
	for _, text := range refused() {
		if x, err := score.Parse(text); x != 0 || err != api.ErrValue {
			t.Errorf("Parse(%.60q) is %d and %v", text, x, err)
		}
		holdParse(t, text)
	}
}

// P12.1, P12.5: every text of up to six of some bytes.
func TestParseOfAllShortTexts(t *testing.T) {
	taken := 0
	level := []string{""}
	for range 6 {
		var next []string
		for _, text := range level {
			for _, c := range "0125.+" {
				next = append(next, text+string(c))
			}
		}
		for _, text := range next {
			holdParse(t, text)
			if _, err := score.Parse(text); err == nil {
				taken++
			}
		}
		level = next
	}
	for c := range 256 {
		b := string([]byte{byte(c)})
		for _, text := range []string{b, "1" + b, b + "1", "0." + b, "0.5" + b, "0." + b + "5", "0" + b + "5", b + ".5", "1" + b + ".5"} {
			holdParse(t, text)
		}
	}
	if taken == 0 {
		t.Error("no short text is taken")
	}
}

// P12.1, P12.5: texts of scores with one byte changed, dropped, doubled, or put in.
func TestParseOfSpoiltTexts(t *testing.T) {
	dice := rand.New(rand.NewSource(136))
	for range 300 {
		text := score.Text(dice.Uint64() >> dice.Intn(64))
		for i := range text {
			holdParse(t, text[:i])
			holdParse(t, text[i:])
			holdParse(t, text[:i]+text[i+1:])
			holdParse(t, text[:i+1]+text[i:])
			for _, c := range "0159. -" {
				holdParse(t, text[:i]+string(c)+text[i+1:])
				holdParse(t, text[:i]+string(c)+text[i:])
			}
		}
		holdParse(t, text+"0")
		holdParse(t, text+".")
		holdParse(t, text+"5")
		holdParse(t, text+"25")
	}
}

// Rule 7: asked again, alike.
func TestTextsAskedAgain(t *testing.T) {
	for x, want := range rows() {
		text := score.Text(x)
		score.Text(x + 1)
		score.Parse("1.5")
		score.Parse("no")
		if text != want || score.Text(x) != want {
			t.Errorf("Text(%d) is %q, and %q asked again", x, text, score.Text(x))
		}
	}
}

// FuzzParse holds Parse against its model.
func FuzzParse(f *testing.F) {
	for _, text := range rows() {
		f.Add(text)
	}
	for _, text := range refused() {
		f.Add(text)
	}
	f.Fuzz(holdParse)
}

// FuzzText holds Text against its model, there and back.
func FuzzText(f *testing.F) {
	for x := range rows() {
		f.Add(x)
	}
	f.Fuzz(holdText)
}
