package lexer

import "concord/api"

// Word is a text that Scan reads as this word; the empty text, which is no word, stays empty.
func Word(s string) string {
	if reserved(s) != api.LexWord {
		return "\\" + s
	}
	out := make([]byte, 0, len(s))
	for i := range len(s) {
		out = putLetter(out, s[i])
	}
	return string(out)
}

// Quote is a text that Scan reads as this quoted text.
func Quote(s string) string {
	out := make([]byte, 0, len(s)+2)
	out = append(out, '"')
	for i := range len(s) {
		switch s[i] {
		case '"', '\\':
			out = append(out, '\\')
		}
		out = append(out, s[i])
	}
	return string(append(out, '"'))
}

// Pattern is a text that Scan reads as this pattern; empty for what isn't read so: no pattern, and a pattern of letters alone, which would be a word.
func Pattern(p string) string {
	if kindOf(p) != api.LexPattern {
		return ""
	}
	out := make([]byte, 0, len(p))
	for i := 0; i < len(p); i++ {
		switch classOf(p[i]) {
		case wild:
			out = append(out, p[i])
		case escape:
			i++
			if i == len(p) {
				return ""
			}
			fallthrough
		default:
			out = putLetter(out, p[i])
		}
	}
	return string(out)
}

// putLetter puts a byte behind a run so that Scan reads it as a letter. Signs are letters but at a run's beginning.
func putLetter(run []byte, b byte) []byte {
	switch classOf(b) {
	case letter, digit:
	case api.LexPlus, api.LexMinus:
		if len(run) > 0 {
			break
		}
		fallthrough
	default:
		run = append(run, '\\')
	}
	return append(run, b)
}
