package lexer_test

import (
	"regexp"
	"strconv"
	"strings"

	"concord/api"
)

const (
	blanks = " \t\n\r"
	marks  = "()[]{}:|^~@\""
	wilds  = "*?"
	// apart are all bytes that aren't letters by themselves.
	apart = blanks + marks + wilds + "\\"
)

// shape is a kind of token and what its bytes look like.
type shape struct {
	kind int
	look *regexp.Regexp
}

// shapes are the kinds of tokens, in the order in which they are tried.
var shapes = []shape{
	{api.LexOpen, regexp.MustCompile(`^\(`)},
	{api.LexClose, regexp.MustCompile(`^\)`)},
	{api.LexSquare, regexp.MustCompile(`^\[`)},
	{api.LexSquared, regexp.MustCompile(`^\]`)},
	{api.LexCurly, regexp.MustCompile(`^\{`)},
	{api.LexCurled, regexp.MustCompile(`^\}`)},
	{api.LexColon, regexp.MustCompile(`^:`)},
	{api.LexPlus, regexp.MustCompile(`^\+`)},
	{api.LexMinus, regexp.MustCompile(`^-`)},
	{api.LexBar, regexp.MustCompile(`^\|`)},
	{api.LexConst, regexp.MustCompile(`^\^=([0-9]+)`)},
	{api.LexBoost, regexp.MustCompile(`^\^([0-9]+)`)},
	{api.LexLeast, regexp.MustCompile(`^@([0-9]+)`)},
	{api.LexTilde, regexp.MustCompile(`^~([0-9]*)`)},
	{api.LexQuoted, regexp.MustCompile(`(?s)^"((?:\\.|[^"\\])*)"`)},
	{api.LexWord, regexp.MustCompile("(?s)^((?:\\\\.|[^][(){}:|^~@\"\\\\ \t\n\r])+)")},
}

var escaped = regexp.MustCompile(`(?s)\\.`)

// modelScan is Scan by the shapes; -1 is the place where there is no fault.
func modelScan(q string) ([]api.Lex, int) {
	var list []api.Lex
	for at := 0; ; {
		at = len(q) - len(strings.TrimLeft(q[at:], blanks))
		if at == len(q) {
			return append(list, api.Lex{At: at, End: at}), -1
		}
		token, ok := modelToken(q[at:])
		if !ok {
			return nil, at
		}
		token.At, token.End = at, at+token.End
		list = append(list, token)
		at = token.End
	}
}

// modelToken is the token with which a text begins, from the place 0 on.
func modelToken(q string) (api.Lex, bool) {
	for _, s := range shapes {
		found := s.look.FindStringSubmatch(q)
		if found == nil {
			continue
		}
		token := api.Lex{Kind: s.kind, End: len(found[0])}
		switch s.kind {
		case api.LexQuoted:
			token.Text = modelLetters(found[1])
		case api.LexWord:
			token.Kind, token.Text = modelRun(found[1])
			// The rest begins so where an escape has nothing behind it alone.
			return token, !strings.HasPrefix(q[token.End:], "\\")
		case api.LexTilde, api.LexBoost, api.LexConst, api.LexLeast:
			var ok bool
			token.N, ok = modelNumber(found[1])
			return token, ok
		}
		return token, true
	}
	return api.Lex{}, false
}

// modelNumber is the value of digits, -1 for none; false, if it is too great.
func modelNumber(digits string) (int, bool) {
	if digits == "" {
		return -1, true
	}
	short := strings.TrimLeft(digits, "0")
	if len(short) > len(strconv.Itoa(api.MaxNumber)) {
		return 0, false
	}
	n, _ := strconv.Atoi("0" + short)
	return n, n <= api.MaxNumber
}

func modelLetters(s string) string {
	return escaped.ReplaceAllStringFunc(s, func(m string) string { return m[1:] })
}

// modelRun is the kind and the text of a run.
func modelRun(run string) (int, string) {
	for kind, word := range map[int]string{api.LexAnd: "AND", api.LexOr: "OR", api.LexNot: "NOT", api.LexTo: "TO"} {
		if run == word {
			return kind, ""
		}
	}
	if strings.ContainsAny(escaped.ReplaceAllString(run, ""), wilds) {
		return api.LexPattern, modelCanonical(run)
	}
	return api.LexWord, modelLetters(run)
}

func modelCanonical(p string) string {
	return escaped.ReplaceAllStringFunc(p, func(m string) string {
		if strings.Contains(wilds+"\\", m[1:]) {
			return m
		}
		return m[1:]
	})
}

// modelElements are the elements of a pattern: a wild mark itself, a letter with an escape ahead of it; false, if the text is no pattern.
func modelElements(p string) ([]string, bool) {
	var list []string
	for ; p != ""; p = p[1:] {
		switch {
		case p == "\\":
			return nil, false
		case p[0] == '\\':
			list = append(list, p[:2])
			p = p[1:]
		case strings.Contains(wilds, p[:1]):
			list = append(list, p[:1])
		default:
			list = append(list, "\\"+p[:1])
		}
	}
	return list, true
}

// modelLetter is a letter as it stands in a run.
func modelLetter(letter string, first bool) string {
	if strings.Contains(apart, letter) || first && strings.Contains("+-", letter) {
		return "\\" + letter
	}
	return letter
}

func modelWord(s string) string {
	if kind, _ := modelRun(s); kind >= api.LexAnd {
		return "\\" + s
	}
	var out string
	for i := range len(s) {
		out += modelLetter(s[i:i+1], i == 0)
	}
	return out
}

func modelQuote(s string) string {
	return `"` + strings.NewReplacer(`"`, `\"`, `\`, `\\`).Replace(s) + `"`
}

func modelPattern(p string) string {
	list, ok := modelElements(p)
	wild := false
	var out string
	for i, e := range list {
		if len(e) == 1 {
			wild = true
			out += e
		} else {
			out += modelLetter(e[1:], i == 0)
		}
	}
	if !ok || !wild {
		return ""
	}
	return out
}
