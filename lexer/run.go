package lexer

import "concord/api"

// kindOf is the kind of the token that a run is.
func kindOf(run string) int {
	if k := reserved(run); k != api.LexWord {
		return k
	}
	for i := 0; i < len(run); i++ {
		switch classOf(run[i]) {
		case wild:
			return api.LexPattern
		case escape:
			i++
		}
	}
	return api.LexWord
}

// reserved is the kind of a run that is a word of the language of queries; LexWord for every other one. With an escape in it, it is none: so there is a way to write each of them as a word.
func reserved(run string) int {
	switch run {
	case "AND":
		return api.LexAnd
	case "OR":
		return api.LexOr
	case "NOT":
		return api.LexNot
	case "TO":
		return api.LexTo
	}
	return api.LexWord
}

// literal is the letters that stand in a piece of a text without a lone escape.
func literal(s string) string {
	out := make([]byte, 0, len(s))
	for i := 0; i < len(s); i++ {
		if classOf(s[i]) == escape {
			i++
		}
		out = append(out, s[i])
	}
	return string(out)
}

// canonical is a pattern with those escapes alone that it can't do without.
func canonical(p string) string {
	out := make([]byte, 0, len(p))
	for i := 0; i < len(p); i++ {
		if classOf(p[i]) == escape {
			i++
			if c := classOf(p[i]); c == wild || c == escape {
				out = append(out, '\\')
			}
		}
		out = append(out, p[i])
	}
	return string(out)
}
