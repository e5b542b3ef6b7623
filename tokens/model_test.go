package tokens_test

import (
	"fmt"
	"math/big"
	"regexp"
	"slices"
	"strings"
	"unicode/utf8"

	"concord/api"
)

// The model says the chapter's sentences by other means than the package: words by a regular expression, capitals by replaced texts, stop words and endings by the chapter's own lists, read from its text, and measures by counting in a word of c and v.

// A run of digits may have a point between each two of them; each two of such runs and other word bytes may have a ' between them.
const (
	runForm  = `(?:[0-9](?:\.?[0-9])*|[A-Za-z_\x{80}-\x{ff}])`
	wordForm = runForm + `(?:'?` + runForm + `)*`
)

var wordsForm = regexp.MustCompile(wordForm)

// wide is a text with a rune for each byte, for regular expressions go by runes.
func wide(text string) string {
	runes := make([]rune, len(text))
	for i := range runes {
		runes[i] = rune(text[i])
	}
	return string(runes)
}

func modelWords(text string) []api.Token {
	var list []api.Token
	runes := wide(text)
	for i, at := range wordsForm.FindAllStringIndex(runes, -1) {
		start := utf8.RuneCountInString(runes[:at[0]])
		end := utf8.RuneCountInString(runes[:at[1]])
		list = append(list, api.Token{Text: text[start:end], Pos: i, Start: start, End: end})
	}
	return list
}

const (
	capitals = "ABCDEFGHIJKLMNOPQRSTUVWXYZ"
	letters  = "abcdefghijklmnopqrstuvwxyz"
	accents  = "ÀÁÂÃÄÅÆÇÈÉÊËÌÍÎÏÐÑÒÓÔÕÖØÙÚÛÜÝÞ"
	unaccent = "àáâãäåæçèéêëìíîïðñòóôõöøùúûüýþ"
)

var foldPairs = func() *strings.Replacer {
	var pairs []string
	from, to := []rune(capitals+accents), []rune(letters+unaccent)
	for i := range from {
		pairs = append(pairs, string(from[i]), string(to[i]))
	}
	return strings.NewReplacer(pairs...)
}()

func modelFold(word string) string {
	return foldPairs.Replace(word)
}

// The lists as they stand in the chapter.
const (
	stopList = "a an and are as at be but by for from has he if in into is it its no not of on or she so such that the their then there these they this to was we were will with you"
	list1a   = "sses → ss; ies → i; ss → ss; s → nothing"
	list1b   = "eed → ee; ed → nothing; ing → nothing"
	list1c   = "y → i"
	list2    = "ational → ate; tional → tion; enci → ence; anci → ance; izer → ize; abli → able; alli → al; entli → ent; eli → e; ousli → ous; ization → ize; ation → ate; ator → ate; alism → al; iveness → ive; fulness → ful; ousness → ous; aliti → al; iviti → ive; biliti → ble"
	list3    = "icate → ic; ative → nothing; alize → al; iciti → ic; ical → ic; ful → nothing; ness → nothing"
	list4    = "al, ance, ence, er, ic, able, ible, ant, ement, ment, ent, ion, ou, ism, ate, iti, ous, ive, ize"
	list5a   = "e → nothing"
)

type ending struct{ old, put string }

// endingsOf reads a list of the chapter; the longest endings come first.
func endingsOf(text string) []ending {
	var list []ending
	for _, part := range strings.FieldsFunc(text, func(r rune) bool { return r == ';' || r == ',' }) {
		old, put, _ := strings.Cut(strings.TrimSpace(part), " → ")
		list = append(list, ending{old, strings.TrimSuffix(put, "nothing")})
	}
	slices.SortStableFunc(list, func(a, b ending) int { return len(b.old) - len(a.old) })
	return list
}

var (
	stops     = strings.Fields(stopList)
	endings1a = endingsOf(list1a)
	endings1b = endingsOf(list1b)
	endings1c = endingsOf(list1c)
	endings2  = endingsOf(list2)
	endings3  = endingsOf(list3)
	endings4  = endingsOf(list4)
	endings5a = endingsOf(list5a)
)

// allEndings are those of all steps, each once.
func allEndings() []string {
	var list []string
	for _, l := range [][]ending{endings1a, endings1b, endings1c, endings2, endings3, endings4, endings5a} {
		for _, e := range l {
			list = append(list, e.old)
		}
	}
	slices.Sort(list)
	return slices.Compact(list)
}

func modelVowel(word string, i int) bool {
	if word[i] == 'y' {
		return i > 0 && !modelVowel(word, i-1)
	}
	return strings.Contains("aeiou", word[i:i+1])
}

// classes is a v for each vowel of a word, and a c for each consonant.
func classes(word string) string {
	out := ""
	for i := range word {
		if modelVowel(word, i) {
			out += "v"
		} else {
			out += "c"
		}
	}
	return out
}

func modelMeasure(word string) int {
	return strings.Count(classes(word), "vc")
}

func modelHasVowel(word string) bool {
	return strings.Contains(classes(word), "v")
}

var (
	notShortForm = regexp.MustCompile(`[wxy]$`)
	addForm      = regexp.MustCompile(`(at|bl|iz)$`)
	notDropForm  = regexp.MustCompile(`[lsz]$`)
	smallForm    = regexp.MustCompile(`\A[a-z]{3,}\z`)
)

func modelShort(word string) bool {
	return strings.HasSuffix(classes(word), "cvc") && !notShortForm.MatchString(word)
}

func modelDouble(word string) bool {
	n := len(word)
	return n > 1 && word[n-1] == word[n-2] && strings.HasSuffix(classes(word), "c")
}

// modelStep does a step with a list, and answers the ending that was replaced.
func modelStep(word string, list []ending, holds func(rest, old string) bool) (string, string) {
	for _, e := range list {
		if rest, ok := strings.CutSuffix(word, e.old); ok {
			if holds(rest, e.old) {
				return rest + e.put, e.old
			}
			return word, ""
		}
	}
	return word, ""
}

func above(least int) func(rest, old string) bool {
	return func(rest, old string) bool { return modelMeasure(rest) > least }
}

func model1b(word string) string {
	word, old := modelStep(word, endings1b, func(rest, old string) bool {
		if old == "eed" {
			return modelMeasure(rest) > 0
		}
		return modelHasVowel(rest)
	})
	if old != "ed" && old != "ing" {
		return word
	}
	if addForm.MatchString(word) {
		return word + "e"
	}
	if modelDouble(word) && !notDropForm.MatchString(word) {
		return word[:len(word)-1]
	}
	if modelMeasure(word) == 1 && modelShort(word) {
		return word + "e"
	}
	return word
}

func modelStem(word string) string {
	if len(word) > 2 && strings.HasSuffix(word, "'s") {
		word = word[:len(word)-2]
	}
	if !smallForm.MatchString(word) {
		return word
	}
	word, _ = modelStep(word, endings1a, func(rest, old string) bool { return true })
	word = model1b(word)
	word, _ = modelStep(word, endings1c, func(rest, old string) bool { return modelHasVowel(rest) })
	word, _ = modelStep(word, endings2, above(0))
	word, _ = modelStep(word, endings3, above(0))
	word, _ = modelStep(word, endings4, func(rest, old string) bool {
		return modelMeasure(rest) > 1 && (old != "ion" || strings.HasSuffix(rest, "s") || strings.HasSuffix(rest, "t"))
	})
	word, _ = modelStep(word, endings5a, func(rest, old string) bool {
		return modelMeasure(rest) > 1 || modelMeasure(rest) == 1 && !modelShort(rest)
	})
	if strings.HasSuffix(word, "ll") && modelMeasure(word) > 1 {
		word = word[:len(word)-1]
	}
	return word
}

var numberForm = regexp.MustCompile(`\A-?[0-9]+\z`)

// modelNumber is the term of a decimal number: it plus 2^63, the highest byte first.
func modelNumber(text string) (string, bool) {
	if !numberForm.MatchString(text) {
		return "", false
	}
	v, _ := new(big.Int).SetString(text, 10)
	v.Add(v, new(big.Int).Lsh(big.NewInt(1), 63))
	if v.Sign() < 0 || v.BitLen() > 64 {
		return "", false
	}
	return string(v.FillBytes(make([]byte, 8))), true
}

func modelOf(f api.Field, text string) []api.Token {
	whole := []api.Token{{Text: text, End: len(text)}}
	switch f.Kind {
	case 1:
		var list []api.Token
		for _, t := range modelWords(text) {
			if f.Fold {
				t.Text = modelFold(t.Text)
			}
			if f.Stop && slices.Contains(stops, t.Text) {
				continue
			}
			if f.Stem {
				t.Text = modelStem(t.Text)
			}
			if len(t.Text) <= 64 {
				list = append(list, t)
			}
		}
		return list
	case 2:
		if len(text) <= 64 {
			return whole
		}
	case 3:
		if term, ok := modelNumber(text); ok {
			whole[0].Text = term
			return whole
		}
	}
	return nil
}

func modelField(s api.Schema, field int, values []api.Value) []api.Token {
	var list []api.Token
	for number, f := range s.Fields {
		if number != field {
			continue
		}
		base := 0
		for i, v := range values {
			if v.Name != f.Name {
				continue
			}
			for _, t := range modelOf(f, v.Text) {
				list = append(list, api.Token{Text: t.Text, Value: i, Pos: base + t.Pos, Start: t.Start, End: t.End})
			}
			if f.Kind == 1 {
				base += len(modelWords(v.Text)) + 16
			} else {
				base += 1 + 16
			}
		}
	}
	return list
}

// chains are the text fields of this name with every chain.
func chains(name string) []api.Field {
	var list []api.Field
	for i := range 8 {
		list = append(list, api.Field{Name: name, Kind: api.KindText, Fold: i&1 != 0, Stop: i&2 != 0, Stem: i&4 != 0})
	}
	return list
}

// over calls use with every text of at most size pieces.
func over(pieces []string, size int, use func(string)) {
	texts := []string{""}
	use("")
	for range size {
		var longer []string
		for _, text := range texts {
			for _, piece := range pieces {
				longer = append(longer, text+piece)
				use(text + piece)
			}
		}
		texts = longer
	}
}

func show(f api.Field) string {
	return fmt.Sprintf("field %q kind %d fold %v stop %v stem %v", f.Name, f.Kind, f.Fold, f.Stop, f.Stem)
}
