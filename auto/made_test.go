package auto_test

import (
	"math/rand"
	"strings"
	"unsafe"

	"concord/api"
)

// allTexts are all texts of at most so many bytes of the alphabet, the empty one too.
func allTexts(most int, alphabet string) []string {
	list := []string{""}
	for from := 0; most > 0; most-- {
		to := len(list)
		for _, head := range list[from:to] {
			for i := range alphabet {
				list = append(list, head+alphabet[i:i+1])
			}
		}
		from = to
	}
	return list
}

// madeText is a text of at most so many bytes of the alphabet.
func madeText(dice *rand.Rand, most int, alphabet string) string {
	s := make([]byte, dice.Intn(most+1))
	for i := range s {
		s[i] = alphabet[dice.Intn(len(alphabet))]
	}
	return string(s)
}

// edited is the text behind so many edits.
func edited(dice *rand.Rand, s string, times int, alphabet string) string {
	for range times {
		b := alphabet[dice.Intn(len(alphabet))]
		at := dice.Intn(len(s) + 1)
		switch what := dice.Intn(3); {
		case what == 0 || at == len(s):
			s = s[:at] + string([]byte{b}) + s[at:]
		case what == 1:
			s = s[:at] + s[at+1:]
		default:
			s = s[:at] + string([]byte{b}) + s[at+1:]
		}
	}
	return s
}

// words are short texts with bytes of all kinds, each of which is an automaton's word, head or pattern.
func words() []string {
	list := allTexts(3, "ab")
	return append(list, "\x00", "\xff", "a\x00", "a\xff", "\x00\x00", "\xff\xff", "\x00a\xff", "\x7f\x80", "é", "aé", "*", "?", "a*b", "\\\\", "aaaa", "abab", "abcab", "kitten")
}

// patterns are good ones: all short ones of letters, stars and gaps, and such with a `\` ahead of bytes.
func patterns() []string {
	list := allTexts(4, "a*?")
	return append(list, "b", "ab", "ab*", "*ab", "a*b", "*ab*", "*a*b", "a?b*c", "ab*ab", "*ab*ba", "*aab", "*a??", "?*?*?",
		"\\*", "\\?", "\\\\", "\\a", "\\\x00", "\\\xff", "a\\*?", "\\**", "*\\*", "\\?*", "?\\?", "\\\\*", "*\\\\", "\\\\\\*", "*\\a\\a",
		"\x00*", "*\xff", "\xff?\x00", "*\x00*\xff*", "é", "*é", "?é", "*****", "a*****", "*****a", "**a**", "?????", "**?**?**", "*?b?*")
}

// bounds are open ones, and texts that are in and out; many are the beginning of one another.
func bounds() []api.Bound {
	list := []api.Bound{open(false, ""), open(true, "b"), open(false, "b")}
	for _, text := range []string{"", "\x00", "\x00\x00", "a", "a\x00", "a\x00\x00", "a\x01", "ab", "aba", "abb", "a\xff", "b", "ba", "\xff", "\xff\x00", "\xff\xff"} {
		list = append(list, in(text), out(text))
	}
	return list
}

// allTold are automata of all kinds.
func allTold() []told {
	var list []told
	for _, word := range words() {
		list = append(list, exactly(word), heading(word), nearly(word, 0), nearly(word, 1), nearly(word, 2))
	}
	for _, pattern := range patterns() {
		list = append(list, wildly(pattern))
	}
	for _, lo := range bounds() {
		for _, hi := range bounds() {
			list = append(list, between(lo, hi))
		}
	}
	return list
}

// madeTold is an automaton of one of the kinds, out of bytes of the alphabet.
func madeTold(dice *rand.Rand, most int, alphabet string) told {
	text := func() string { return madeText(dice, most, alphabet) }
	bound := func() api.Bound {
		return api.Bound{Open: dice.Intn(8) == 0, In: dice.Intn(2) == 0, Text: text()}
	}
	switch dice.Intn(5) {
	case 0:
		return exactly(text())
	case 1:
		return heading(text())
	case 2:
		return wildly(madePattern(dice, most, alphabet))
	case 3:
		return nearly(text(), dice.Intn(3))
	}
	return between(bound(), bound())
}

// madePattern is a good pattern of at most so many elements.
func madePattern(dice *rand.Rand, most int, alphabet string) string {
	var b strings.Builder
	for range dice.Intn(most + 1) {
		switch dice.Intn(6) {
		case 0, 1:
			b.WriteByte('*')
		case 2:
			b.WriteByte('?')
		case 3:
			b.WriteByte('\\')
			b.WriteByte((alphabet + "*?\\")[dice.Intn(len(alphabet)+3)])
		default:
			letter := alphabet[dice.Intn(len(alphabet))]
			if letter == '\\' {
				letter = 'x'
			}
			b.WriteByte(letter)
		}
	}
	return b.String()
}

// near are texts about an automaton: what it was made of, its beginnings, and these with bytes put behind, dropped and changed.
func (x told) near() []string {
	list := []string{"", "a", "\x00", "\xff", strings.Repeat("a", 300)}
	for _, text := range []string{x.text, x.lo.Text, x.hi.Text, strings.ReplaceAll(x.text, "*", "xy"), strings.ReplaceAll(x.text, "\\", "")} {
		for n := range len(text) + 1 {
			head := text[:n]
			list = append(list, head, head+"\x00", head+"\xff", head+"a", head+text[n:]+text[n:], text[n:])
			if n > 0 {
				last := text[n-1]
				list = append(list, text[:n-1]+string([]byte{last - 1}), text[:n-1]+string([]byte{last + 1}), text[:n-1]+"?"+text[n:], text[:n-1]+text[n:])
			}
		}
	}
	return list
}

// lent is a text in bytes that the caller may write over.
func lent(s string) (string, []byte) {
	b := append([]byte(s), 0)
	return unsafe.String(&b[0], len(s)), b
}

func wipe(b []byte) {
	for i := range b {
		b[i] ^= 0x55
	}
}
