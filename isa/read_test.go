package isa_test

import (
	"slices"
	"strings"
	"testing"

	"concord/api"
	"concord/isa"
)

// fails are texts that aren't listings, with the line at which each fails.
func fails() map[string]int {
	return map[string]int{
		// The chapter's examples.
		"": 1, "avgs": 1, "avgs\nevery\ncursor 0 \"a\"\n": 3, "avgs 01\n": 1, "avgs\ndrive\n": 2, "avgs\ncursor 0 \"\\61\"\n": 2, "avgs\nscale 18446744073709551616\n": 2,
		// Lines that aren't ended, and empty ones.
		"\n": 1, "\navgs\n": 1, "avgs 1": 1, "a": 1, " ": 1, "avgs\nend": 2, "avgs\nend\n\n": 3, "avgs\n\n": 2, "avgs\n\nend\n": 2, "avgs\n ": 2, "avgs\nx": 2, "avgs\nend\nx\ny": 3, "avgs\r\n": 1, "avgs\nend\r\n": 2, "avgs\n\x00": 2,
		// The first line.
		"end\n": 1, "every\n": 1, "cursor 0 \"a\"\n": 1, "near 0\n": 1, "drive 0\n": 1, "end\navgs\n": 1, "Avgs\n": 1, "AVGS\n": 1, "avg\n": 1, "avgss\n": 1, "avgs1\n": 1, " avgs\n": 1, "avgs \n": 1, "avgs  1\n": 1, "avgs 1 \n": 1, "avgs 1  2\n": 1, "avgs\t1\n": 1, "avgs 1\t2\n": 1, "\xef\xbb\xbfavgs\n": 1,
		// Numbers.
		"avgs 00\n": 1, "avgs +1\n": 1, "avgs -1\n": 1, "avgs -0\n": 1, "avgs 1.0\n": 1, "avgs 1e3\n": 1, "avgs 0x1\n": 1, "avgs 1_0\n": 1, "avgs a\n": 1, "avgs 1,2\n": 1, "avgs 9223372036854775808\n": 1, "avgs 0 18446744073709551615\n": 1, "avgs 18446744073709551616\n": 1, "avgs 18446744073709551617\n": 1, "avgs 99999999999999999999999999\n": 1, "avgs 1" + strings.Repeat("0", 5000) + "\n": 1, "avgs " + strings.Repeat("0", 5000) + "\n": 1, "avgs ٣\n": 1, "avgs １\n": 1, "avgs \xff\n": 1, "avgs 1\x00\n": 1, "avgs :\n": 1, "avgs /\n": 1,
		// Cursors.
		"avgs\ncursor\n": 2, "avgs\ncursor 0\n": 2, "avgs\ncursor 0 \n": 2, "avgs\ncursor \"a\"\n": 2, "avgs\ncursor  \"a\"\n": 2, "avgs\ncursor 0 a\n": 2, "avgs\ncursor 0 \"\n": 2, "avgs\ncursor 0 \"a\n": 2, "avgs\ncursor 0 a\"\n": 2, "avgs\ncursor 0  \"a\"\n": 2, "avgs\ncursor  0 \"a\"\n": 2, "avgs\ncursor 0 \"a\" \n": 2, "avgs\ncursor 0 \"a\"1\n": 2, "avgs\ncursor 0 \"a\" 1\n": 2, "avgs\ncursor 0 1 \"a\"\n": 2, "avgs\ncursor 0\"a\"\n": 2, "avgs\ncursor0 \"a\"\n": 2, "avgs\ncursor 0 'a'\n": 2, "avgs\ncursor 0 \"a\"\"\n": 2, "avgs\ncursor 0 \"a\"b\"\n": 2, "avgs\ncursor 0 \"\"\"\n": 2, "avgs\ncursor 0 \"\" \"\"\n": 2, "avgs\ncursor 00 \"a\"\n": 2, "avgs\ncursor +0 \"a\"\n": 2, "avgs\ncursor -1 \"a\"\n": 2, "avgs\ncursor 9223372036854775808 \"a\"\n": 2, "avgs\ncursors 0 \"a\"\n": 2,
		"avgs\ncursor 0 \"\\\"\n": 2, "avgs\ncursor 0 \"\\2\"\n": 2, "avgs\ncursor 0 \"\\\\\"\n": 2, "avgs\ncursor 0 \"\\\"\"\n": 2, "avgs\ncursor 0 \"\\n\"\n": 2, "avgs\ncursor 0 \"\\x0a\"\n": 2, "avgs\ncursor 0 \"\\0A\"\n": 2, "avgs\ncursor 0 \"\\FF\"\n": 2, "avgs\ncursor 0 \"\\0g\"\n": 2, "avgs\ncursor 0 \"\\g0\"\n": 2, "avgs\ncursor 0 \"\\ 0\"\n": 2, "avgs\ncursor 0 \"\\20\"\n": 2, "avgs\ncursor 0 \"\\7e\"\n": 2, "avgs\ncursor 0 \"\x00\"\n": 2, "avgs\ncursor 0 \"\t\"\n": 2, "avgs\ncursor 0 \"\x7f\"\n": 2, "avgs\ncursor 0 \"\x80\"\n": 2, "avgs\ncursor 0 \"é\"\n": 2, "avgs\ncursor 0 \"a\nb\"\n": 2,
		// Nears.
		"avgs\nnear\n": 2, "avgs\nnear \n": 2, "avgs\nnear 0+0\n": 2, "avgs\nnear 0 0\n": 2, "avgs\nnear 0 +\n": 2, "avgs\nnear 0 0+\n": 2, "avgs\nnear 0 +0\n": 2, "avgs\nnear 0 0 +0\n": 2, "avgs\nnear 0 0+ 0\n": 2, "avgs\nnear 0 0 + 0\n": 2, "avgs\nnear 0 0+0+0\n": 2, "avgs\nnear 0 0++0\n": 2, "avgs\nnear 0 0+0 \n": 2, "avgs\nnear 0  0+0\n": 2, "avgs\nnear 0 0-0\n": 2, "avgs\nnear 0 00+0\n": 2, "avgs\nnear 0 0+00\n": 2, "avgs\nnear 00\n": 2, "avgs\nnear -1\n": 2, "avgs\nnear 9223372036854775808\n": 2, "avgs\nnear 0 9223372036854775808+0\n": 2, "avgs\nnear 0 0+9223372036854775808\n": 2, "avgs\nnear 0 0+0 1\n": 2,
		// Every and drive.
		"avgs\nevery \n": 2, "avgs\nevery 1\n": 2, "avgs\n every\n": 2, "avgs\nevery\nevery\n": 3, "avgs\ndrive \n": 2, "avgs\ndrive 0 \n": 2, "avgs\ndrive  0\n": 2, "avgs\ndrive 00\n": 2, "avgs\ndrive 0\ndrive 0\n": 3, "avgs\ndrive 0\nevery\n": 3, "avgs\ndrive 9223372036854775808\n": 2, "avgs\ndrive -1\n": 2, "avgs\ndrive 1 a\n": 2,
		// Code.
		"avgs\nEnd\n": 2, "avgs\nend \n": 2, "avgs\n end\n": 2, "avgs\nend 0\n": 2, "avgs\nhas\n": 2, "avgs\nhas \n": 2, "avgs\nhas 0 0\n": 2, "avgs\nterm 0\n": 2, "avgs\nterm 0 \n": 2, "avgs\nterm 0 0 0\n": 2, "avgs\nterm  0 0\n": 2, "avgs\nterm 0  0\n": 2, "avgs\nterm 00 0\n": 2, "avgs\nterm 0 01\n": 2, "avgs\nterm +1 0\n": 2, "avgs\nterm 0 -1\n": 2, "avgs\nterm 18446744073709551616 0\n": 2, "avgs\nterm 0 18446744073709551616\n": 2, "avgs\nend\nend\nterm 0 99999999999999999999\n": 4, "avgs\nnop\n": 2, "avgs\n0\n": 2, "avgs\n17\n": 2, "avgs\nend\nevery\n": 3, "avgs\nend\ndrive 0\n": 3, "avgs\nend\nnear 0\n": 3, "avgs\nend\ncursor 0 \"a\"\n": 3, "avgs\nend\navgs\n": 3, "avgs\navgs\n": 2, "avgs\nends\n": 2, "avgs\nen\n": 2, "avgs\nend;\n": 2, "avgs\nend # the end\n": 2,
		// The first of several.
		"x\navgs\nx\n": 1, "avgs\nx\ny": 2, "avgs 1\ncursor 0 \"a\"\ncursor 1 b\nend 1\nend": 3,
	}
}

// P20.3: the line at which a text fails, and an empty program and ErrSyntax beside it.
func TestReadFails(t *testing.T) {
	for text, line := range fails() {
		if p, n, err := isa.Read(text); err != api.ErrSyntax || n != line || !alike(p, api.Prog{}) {
			t.Errorf("Read(%.80q) is %+v, %d and %v, where the line %d fails", text, p, n, err, line)
		}
		holdRead(t, text)
	}
}

// P20.3: every listing cut off at every byte, with a byte left out, doubled, changed or put in at every place.
func TestReadOneByteOff(t *testing.T) {
	for text := range programs() {
		t.Run(text, func(t *testing.T) {
			t.Parallel()
			taken := 0
			hold := func(text string) {
				if holdRead(t, text) {
					taken++
				}
			}
			for i := range len(text) {
				hold(text[:i])
				hold(text[i:])
				hold(text[:i] + text[i+1:])
				for _, c := range []byte(" \n\"\\+-0129afAbe\x00\r\t.\x7f\x80\xff") {
					hold(text[:i] + string([]byte{c}) + text[i+1:])
					hold(text[:i] + string([]byte{c}) + text[i:])
				}
			}
			hold(text + "\n")
			hold(text + " ")
			hold(text + text)
			if taken == 0 {
				t.Error("none is taken")
			}
		})
	}
}

// P20.3: a listing with every byte in every place.
func TestReadEveryByte(t *testing.T) {
	for i := range len(fullText) {
		for c := range 256 {
			holdRead(t, fullText[:i]+string([]byte{byte(c)})+fullText[i+1:])
		}
	}
	for c := range 256 {
		b := string([]byte{byte(c)})
		for _, around := range []string{"X", "avgsX\n", "avgs X\n", "avgs 1X\n", "avgs\nX\n", "avgs\ncursor 0 \"X\"\n", "avgs\ncursor 0 \"\\X0\"\n", "avgs\ncursor 0 \"\\0X\"\n", "avgs\ncursor 0 \"\\2X\"\n", "avgs\ncursor 0 \"\\5X\"\n", "avgs\ncursor 0 \"\\7X\"\n", "avgs\ncursor 0 X\"\n", "avgs\nnear 0 0X0\n", "avgs\nend\nX\n", "avgs\nendX", "avgs\nendX\n"} {
			holdRead(t, strings.ReplaceAll(around, "X", b))
		}
	}
}

// P20.3: every escape of two digits, small and great.
func TestReadEscapes(t *testing.T) {
	taken := 0
	const both = "0123456789abcdefABCDEFgG\"\\"
	for i := range len(both) {
		for j := range len(both) {
			for _, around := range []string{"X", "aX", "Xa", "X ", "XX"} {
				if holdRead(t, "avgs\ncursor 0 \""+strings.ReplaceAll(around, "X", `\`+both[i:i+1]+both[j:j+1])+"\"\n") {
					taken++
				}
			}
		}
	}
	// The bytes that don't stand for themselves, in each of five ways.
	if want := 5 * (32 + 2 + 129); taken != want {
		t.Errorf("%d escapes are taken, not %d", taken, want)
	}
}

// P20.3: all rows of up to five lines out of one of each kind.
func TestReadRowsOfLines(t *testing.T) {
	lines := []string{"avgs\n", "avgs 1\n", "cursor 0 \"a\"\n", "near 0\n", "every\n", "drive 0\n", "end\n", "\n"}
	taken := 0
	rows := []string{""}
	for range 5 {
		var next []string
		for _, row := range rows {
			for _, line := range lines {
				next = append(next, row+line)
			}
		}
		for _, row := range next {
			if holdRead(t, row) {
				taken++
			}
		}
		rows = next
	}
	if taken == 0 {
		t.Error("no row of lines is taken")
	}
}

// P20.3: the lines of a listing in another order, twice, and left out.
func TestReadLinesMoved(t *testing.T) {
	lines := strings.SplitAfter(strings.TrimSuffix(fullText, "\n"), "\n")
	lines[len(lines)-1] += "\n"
	for i := range lines {
		left := slices.Delete(slices.Clone(lines), i, i+1)
		holdRead(t, strings.Join(left, ""))
		for j := range len(left) + 1 {
			holdRead(t, strings.Join(slices.Insert(slices.Clone(left), j, lines[i]), ""))
			holdRead(t, strings.Join(slices.Insert(slices.Clone(lines), j, lines[i]), ""))
		}
		for j := range lines {
			swapped := slices.Clone(lines)
			swapped[i], swapped[j] = swapped[j], swapped[i]
			holdRead(t, strings.Join(swapped, ""))
		}
	}
	for bits := range 1 << len(lines) {
		var some []string
		for i, line := range lines {
			if bits>>i&1 == 1 {
				some = append(some, line)
			}
		}
		holdRead(t, strings.Join(some, ""))
	}
	slices.Reverse(lines)
	holdRead(t, strings.Join(lines, ""))
}

// spoilt are the ways in which a number of a listing may be spoilt.
var spoilt = []string{"", "0N", "00N", "+N", "-N", "N0", " N", "N ", "N,", "N.", "N.0", "0xN", "N_", "_N", "N_0", "9223372036854775807", "9223372036854775808", "18446744073709551615", "18446744073709551616", "18446744073709551617", "36893488147419103232", "100000000000000000000", "99999999999999999999999999999999999999999", "0", "00", "-0", "+0", "a", "٣"}

// P20.3: every number of a listing spoilt in every way.
func TestReadNumbersSpoilt(t *testing.T) {
	for text := range programs() {
		for _, at := range aNumber.FindAllStringIndex(text, -1) {
			for _, form := range spoilt {
				holdRead(t, text[:at[0]]+strings.ReplaceAll(form, "N", text[at[0]:at[1]])+text[at[1]:])
			}
		}
	}
}

// P20.3: drawn listings, and such with some bytes off.
func TestReadDrawn(t *testing.T) {
	m := newMaker(209)
	for range 5000 {
		text, ok := modelText(m.program())
		if !ok || !holdRead(t, text) {
			t.Fatalf("%q isn't taken", text)
		}
		for range 4 {
			b := []byte(text)
			for range 1 + m.Intn(2) {
				i := m.Intn(len(b))
				switch m.Intn(4) {
				case 0:
					b = slices.Delete(b, i, i+1)
				case 1:
					b = slices.Insert(b, i, text[m.Intn(len(text))])
				case 2:
					b[i] = text[m.Intn(len(text))]
				case 3:
					j := m.Intn(len(b))
					b[i], b[j] = b[j], b[i]
				}
				b = append(b, '\n')
			}
			holdRead(t, string(b))
		}
	}
}

// FuzzRead holds Read against its model, and Text of what it answers.
func FuzzRead(f *testing.F) {
	for text := range programs() {
		f.Add(text)
	}
	for text := range fails() {
		f.Add(text)
	}
	f.Fuzz(func(t *testing.T, text string) { holdRead(t, text) })
}
