package tokens

import (
	"sort"

	"concord/api"
)

// step is one step of a chain.
type step interface {
	// take is what the step makes of a word; false, if it leaves the word out.
	take(word string) (string, bool)
}

type (
	folding  struct{}
	stopping struct{}
	stemming struct{}
)

func (folding) take(word string) (string, bool) {
	return Fold(word), true
}

func (stopping) take(word string) (string, bool) {
	return word, !IsStop(word)
}

func (stemming) take(word string) (string, bool) {
	return Stem(word), true
}

// chainOf is the steps of a text field in the order in which they are done.
func chainOf(f api.Field) []step {
	var chain []step
	if f.Fold {
		chain = append(chain, folding{})
	}
	if f.Stop {
		chain = append(chain, stopping{})
	}
	if f.Stem {
		chain = append(chain, stemming{})
	}
	return chain
}

// chained is the tokens that a chain leaves of words.
func chained(chain []step, words []api.Token) []api.Token {
	var list []api.Token
	for _, t := range words {
		text, ok := through(chain, t.Text)
		if !ok || len(text) > api.MaxTerm {
			continue
		}
		t.Text = text
		list = append(list, t)
	}
	return list
}

// through is what a chain leaves of a word; false, if one of its steps leaves it out.
func through(chain []step, word string) (string, bool) {
	for _, s := range chain {
		left, ok := s.take(word)
		if !ok {
			return "", false
		}
		word = left
	}
	return word, true
}

const (
	// latin is the first of the two bytes that each letter with an accent of Latin-1 has in UTF-8.
	latin = 195
	// times is the second byte of the sign that stands in the midst of the capitals there, and is none.
	times = 151
	// toSmall leads from a capital to its small letter, with an accent or without.
	toSmall = 'a' - 'A'
)

// Fold is a word with its capital letters made small.
func Fold(word string) string {
	b := []byte(word)
	for i, c := range b {
		// Folding neither makes nor changes a byte that is latin: the byte ahead may be asked behind its own folding.
		if capital(c) || i > 0 && b[i-1] == latin && accented(c) {
			b[i] = c + toSmall
		}
	}
	return string(b)
}

// accented tells whether a byte behind latin makes a capital with it.
func accented(c byte) bool {
	return 128 <= c && c <= 158 && c != times
}

// stops are the stop words, rising, so that one can be searched for.
var stops = [...]string{
	"a", "an", "and", "are", "as", "at", "be", "but", "by", "for", "from", "has", "he", "if",
	"in", "into", "is", "it", "its", "no", "not", "of", "on", "or", "she", "so", "such", "that",
	"the", "their", "then", "there", "these", "they", "this", "to", "was", "we", "were", "will", "with", "you",
}

// Stops are the stop words, rising.
func Stops() []string {
	list := make([]string, 0, len(stops))
	for _, word := range stops {
		list = append(list, word)
	}
	return list
}

// IsStop tells whether a word is a stop word.
func IsStop(word string) bool {
	i := sort.Search(len(stops), func(i int) bool { return stops[i] >= word })
	return i < len(stops) && stops[i] == word
}
