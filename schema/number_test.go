package schema_test

import (
	"encoding/hex"
	"math"
	"math/rand"
	"slices"
	"strconv"
	"strings"
	"testing"

	"concord/schema"
)

// numbers are the ends of the range, 0, and each power of two with its neighbours, of both signs; and many others. They rise.
func numbers() []int64 {
	list := []int64{math.MinInt64, math.MinInt64 + 1, math.MaxInt64 - 1, math.MaxInt64}
	for v := int64(-600); v <= 600; v++ {
		list = append(list, v)
	}
	for k := range 63 {
		for d := int64(-1); d <= 1; d++ {
			list = append(list, 1<<k+d, -1<<k+d)
		}
	}
	dice := rand.New(rand.NewSource(47))
	for range 1000 {
		list = append(list, int64(dice.Uint64())>>dice.Intn(64))
	}
	slices.Sort(list)
	return slices.Compact(list)
}

// P4.4
func TestNumberTerm(t *testing.T) {
	for v, want := range map[int64]string{
		0:                  "8000000000000000",
		-1:                 "7fffffffffffffff",
		1:                  "8000000000000001",
		255:                "80000000000000ff",
		256:                "8000000000000100",
		-256:               "7fffffffffffff00",
		0x0123456789abcdef: "8123456789abcdef",
		math.MaxInt64:      "ffffffffffffffff",
		math.MinInt64:      "0000000000000000",
		math.MinInt64 + 1:  "0000000000000001",
	} {
		if got := hex.EncodeToString([]byte(schema.NumberTerm(v))); got != want {
			t.Errorf("NumberTerm(%d) = %s, want %s", v, got, want)
		}
	}
	for _, v := range numbers() {
		if term := schema.NumberTerm(v); term != modelTerm(v) {
			t.Errorf("NumberTerm(%d) = %x, want %x", v, term, modelTerm(v))
		}
	}
}

// P4.4
func TestNumberTermsSortAsNumbers(t *testing.T) {
	list := numbers()
	terms := make([]string, len(list))
	for i, v := range list {
		terms[i] = schema.NumberTerm(v)
	}
	for i := range terms {
		for j := range terms {
			if (terms[i] < terms[j]) != (list[i] < list[j]) {
				t.Fatalf("the terms of %d and %d don't sort as the numbers do: %x, %x", list[i], list[j], terms[i], terms[j])
			}
		}
	}
}

// P4.4
func TestTermNumber(t *testing.T) {
	for _, v := range numbers() {
		if back, ok := schema.TermNumber(schema.NumberTerm(v)); back != v || !ok {
			t.Errorf("TermNumber(NumberTerm(%d)) = %d, %v", v, back, ok)
		}
		if back, ok := schema.TermNumber(modelTerm(v)); back != v || !ok {
			t.Errorf("TermNumber(%x) = %d, %v", modelTerm(v), back, ok)
		}
	}
	// Every text of eight bytes is a term.
	dice := rand.New(rand.NewSource(48))
	for range 10000 {
		b := make([]byte, 8)
		for i := range b {
			b[i] = []byte{0, 0x7f, 0x80, 0xff, byte(dice.Intn(256))}[dice.Intn(5)]
		}
		v, ok := schema.TermNumber(string(b))
		if !ok || schema.NumberTerm(v) != string(b) {
			t.Fatalf("TermNumber(%x) = %d, %v, whose term is %x", b, v, ok, schema.NumberTerm(v))
		}
	}
	for n := range 300 {
		for _, c := range []string{"\x00", "\x80", "\xff", "7"} {
			v, ok := schema.TermNumber(strings.Repeat(c, n))
			if ok != (n == 8) || !ok && v != 0 {
				t.Errorf("TermNumber of %d times %x = %d, %v", n, c, v, ok)
			}
		}
	}
}

// holdNumber holds ParseNumber against the model.
func holdNumber(t *testing.T, text string) {
	t.Helper()
	v, ok := schema.ParseNumber(text)
	if want, wantOk := modelNumber(text); v != want || ok != wantOk {
		t.Fatalf("ParseNumber(%q) = %d, %v, want %d, %v", text, v, ok, want, wantOk)
	}
}

// P4.5
func TestParseNumber(t *testing.T) {
	noughts := strings.Repeat("0", 5000)
	for text, want := range map[string]int64{
		"0": 0, "-0": 0, "00": 0, "-00": 0, "1": 1, "-1": -1, "9": 9, "10": 10, "-007": -7, "007": 7,
		"9223372036854775807": math.MaxInt64, "-9223372036854775807": -math.MaxInt64, "-9223372036854775808": math.MinInt64,
		"9223372036854775799":                 9223372036854775799,
		noughts:                               0,
		"-" + noughts:                         0,
		noughts + "9223372036854775807":       math.MaxInt64,
		"-" + noughts + "9223372036854775808": math.MinInt64,
		noughts + "12":                        12,
	} {
		if v, ok := schema.ParseNumber(text); v != want || !ok {
			t.Errorf("ParseNumber(%q) = %d, %v, want %d", text, v, ok, want)
		}
		holdNumber(t, text)
	}
	for _, text := range []string{
		"", "-", "+", "--", "+1", "+0", "-+1", "+-1", "--1", "1-", "1-1", "- 1", "1 ", " 1", "1 2", "\t1", "1\n", "\x001", "1\x00",
		"x", "1x", "x1", "0x10", "0b1", "0o7", "1_000", "_1", "1_", "1e3", "1.0", "1.", ".5", "1,0", "a", "f", "-a", "inf", "NaN", "٣", "１", "−1",
		"9223372036854775808", "-9223372036854775809", "9223372036854775810", "18446744073709551615", "18446744073709551616", "18446744073709551617", "-18446744073709551616",
		"10000000000000000000", "-10000000000000000000", "99999999999999999999", "92233720368547758070", "99999999999999999999999x",
		noughts + "9223372036854775808", noughts + "x", "-" + noughts + "9223372036854775809", strings.Repeat("9", 5000), noughts + "-1",
	} {
		if v, ok := schema.ParseNumber(text); v != 0 || ok {
			t.Errorf("ParseNumber(%q) = %d, %v", text, v, ok)
		}
		holdNumber(t, text)
	}
}

// P4.5
func TestParseNumberAgainstTheModel(t *testing.T) {
	pieces := []string{"-", "+", "0", "1", "9", "_", " ", "x", ".", "e", "\x00", "\xff", ":", "/"}
	var row func(text string, left int)
	row = func(text string, left int) {
		holdNumber(t, text)
		if left == 0 {
			return
		}
		for _, piece := range pieces {
			row(text+piece, left-1)
		}
	}
	row("", 4)
	// The bytes about the digits, and all others, in every place.
	for _, base := range []string{"7", "-7", "12", "-120", "9223372036854775807", "-9223372036854775808"} {
		for at := 0; at <= len(base); at++ {
			for c := range 256 {
				holdNumber(t, base[:at]+string([]byte{byte(c)})+base[at:])
				if at < len(base) {
					holdNumber(t, base[:at]+string([]byte{byte(c)})+base[at+1:])
				}
			}
			holdNumber(t, base[:at])
		}
	}
	for _, v := range numbers() {
		text := strconv.FormatInt(v, 10)
		if got, ok := schema.ParseNumber(text); got != v || !ok {
			t.Errorf("ParseNumber(%q) = %d, %v", text, got, ok)
		}
	}
}

// P4.5: every number near the ends of an int64, within and beyond.
func TestParseNumberAtTheEdges(t *testing.T) {
	for _, head := range []string{"922337203685477", "-922337203685477", "0922337203685477", "-000922337203685477", "1844674407370955"} {
		for d := range 10000 {
			tail := strconv.Itoa(d)
			holdNumber(t, head+strings.Repeat("0", 4-len(tail))+tail)
		}
	}
}

func FuzzParseNumber(f *testing.F) {
	f.Add("-007")
	f.Add("9223372036854775807")
	f.Add("-9223372036854775808")
	f.Fuzz(func(t *testing.T, text string) {
		holdNumber(t, text)
	})
}
