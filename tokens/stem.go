package tokens

import (
	"slices"
	"strings"
)

// Stem is a word without its endings.
func Stem(word string) string {
	if len(word) > len("'s") {
		word = strings.TrimSuffix(word, "'s")
	}
	if len(word) >= 3 && allSmall(word) {
		word = shortened(word)
	}
	return strings.Clone(word)
}

func allSmall(word string) bool {
	for i := range len(word) {
		if !small(word[i]) {
			return false
		}
	}
	return true
}

// shortened is a word of small letters behind all steps.
func shortened(word string) string {
	word = replaced(word, ending1a, 0)
	word = step1b(word)
	word = step1c(word)
	word = replaced(word, ending2, 1)
	word = replaced(word, ending3, 1)
	word = step4(word)
	word = step5a(word)
	return step5b(word)
}

// longest is the number of bytes that the longest endings of all lists have.
const longest = len("ational")

// replaced does a step with a list: by is what the list puts in the place of an ending, and whether it has it; least is the least measure of the rest at which that is done. It goes from the longest ending on, for one that is in the list hides the shorter ones, done or not.
func replaced(word string, by func(ending string) (string, bool), least int) string {
	for size := min(longest, len(word)); size > 0; size-- {
		rest, ending := word[:len(word)-size], word[len(word)-size:]
		other, ok := by(ending)
		if !ok {
			continue
		}
		if measure(rest) < least {
			return word
		}
		return rest + other
	}
	return word
}

func ending1a(ending string) (string, bool) {
	switch ending {
	case "sses", "ss":
		return "ss", true
	case "ies":
		return "i", true
	case "s":
		return "", true
	}
	return "", false
}

func step1b(word string) string {
	if rest, ok := strings.CutSuffix(word, "eed"); ok {
		if measure(rest) > 0 {
			return rest + "ee"
		}
		return word
	}
	rest, ok := strings.CutSuffix(word, "ed")
	if !ok {
		rest, ok = strings.CutSuffix(word, "ing")
	}
	if !ok || !hasVowel(rest) {
		return word
	}
	return mended(rest)
}

// mended is what is left behind ed or ing, made a word again: conflat is conflate, hopp is hop, fil is file.
func mended(rest string) string {
	switch {
	case endsWith(rest, "at", "bl", "iz"):
		return rest + "e"
	case endsDouble(rest) && !endsWith(rest, "l", "s", "z"):
		return rest[:len(rest)-1]
	case measure(rest) == 1 && endsShort(rest):
		return rest + "e"
	}
	return rest
}

func step1c(word string) string {
	if rest, ok := strings.CutSuffix(word, "y"); ok && hasVowel(rest) {
		return rest + "i"
	}
	return word
}

func ending2(ending string) (string, bool) {
	switch ending {
	case "ational", "ation", "ator":
		return "ate", true
	case "tional":
		return "tion", true
	case "enci":
		return "ence", true
	case "anci":
		return "ance", true
	case "izer", "ization":
		return "ize", true
	case "abli":
		return "able", true
	case "alli", "alism", "aliti":
		return "al", true
	case "entli":
		return "ent", true
	case "eli":
		return "e", true
	case "ousli", "ousness":
		return "ous", true
	case "iveness", "iviti":
		return "ive", true
	case "fulness":
		return "ful", true
	case "biliti":
		return "ble", true
	}
	return "", false
}

func ending3(ending string) (string, bool) {
	switch ending {
	case "icate", "iciti", "ical":
		return "ic", true
	case "alize":
		return "al", true
	case "ative", "ful", "ness":
		return "", true
	}
	return "", false
}

func ending4(ending string) (string, bool) {
	switch ending {
	case "al", "ance", "ence", "er", "ic", "able", "ible", "ant", "ement", "ment", "ent",
		"ion", "ou", "ism", "ate", "iti", "ous", "ive", "ize":
		return "", true
	}
	return "", false
}

func step4(word string) string {
	// A word that ends with ion ends with nothing else of the list: where ion isn't to be taken off, the step is over.
	if strings.HasSuffix(word, "ion") && !endsWith(word, "sion", "tion") {
		return word
	}
	return replaced(word, ending4, 2)
}

func step5a(word string) string {
	rest, ok := strings.CutSuffix(word, "e")
	if !ok {
		return word
	}
	if m := measure(rest); m > 1 || m == 1 && !endsShort(rest) {
		return rest
	}
	return word
}

func step5b(word string) string {
	if strings.HasSuffix(word, "ll") && measure(word) > 1 {
		return word[:len(word)-1]
	}
	return word
}

// vowels tells of each letter of a word whether it is a vowel; from the left, for of a y the letter ahead of it decides.
func vowels(word string) []bool {
	list := make([]bool, len(word))
	for i := range list {
		switch word[i] {
		case 'a', 'e', 'i', 'o', 'u':
			list[i] = true
		case 'y':
			list[i] = i > 0 && !list[i-1]
		}
	}
	return list
}

func hasVowel(word string) bool {
	return slices.Contains(vowels(word), true)
}

// measure is the number of consonants right behind a vowel.
func measure(word string) int {
	sum := 0
	list := vowels(word)
	for i := 1; i < len(list); i++ {
		if list[i-1] && !list[i] {
			sum++
		}
	}
	return sum
}

func endsWith(word string, endings ...string) bool {
	for _, ending := range endings {
		if strings.HasSuffix(word, ending) {
			return true
		}
	}
	return false
}

func endsDouble(word string) bool {
	last := len(word) - 1
	return last >= 1 && word[last] == word[last-1] && !vowels(word)[last]
}

// endsShort tells whether a word ends with a consonant, a vowel and a consonant that isn't w, x or y.
func endsShort(word string) bool {
	last := len(word) - 1
	if last < 2 || endsWith(word, "w", "x", "y") {
		return false
	}
	list := vowels(word)
	return !list[last-2] && list[last-1] && !list[last]
}
