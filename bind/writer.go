package bind

import (
	"strconv"
	"strings"

	"concord/api"
)

// writer has what has been written of a good query.
type writer struct {
	strings.Builder
}

func (w *writer) query(q api.Query) {
	switch q.Kind {
	case api.QNone:
		w.WriteString("none")
	case api.QAll:
		w.WriteString("all")
	default:
		w.WriteString("(")
		w.own(q)
		w.kids(q)
		w.WriteString(")")
	}
}

// own writes what a query has beside its kids.
func (w *writer) own(q api.Query) {
	field, n, weight := strconv.Itoa(q.Field), strconv.Itoa(q.N), strconv.FormatUint(q.Weight, 10)
	switch q.Kind {
	case api.QHas:
		w.words("has", field)
	case api.QTerm:
		w.words("term", field, quoted(q.Text), weight)
	case api.QPhrase:
		w.words("phrase", field, n, weight)
		w.terms(q)
	case api.QPrefix:
		w.words("prefix", field, quoted(q.Text))
	case api.QWild:
		w.words("wild", field, quoted(q.Text))
	case api.QFuzzy:
		w.words("fuzzy", field, n, quoted(q.Text))
	case api.QSpan:
		w.words("span", field, endText(q.Lo), endText(q.Hi))
	case api.QList:
		w.words("list", n)
	case api.QMax:
		w.words("max")
	case api.QNot:
		w.words("not")
	case api.QBoost:
		w.words("boost", weight)
	case api.QConst:
		w.words("const", weight)
	}
}

// words writes texts with a blank between two.
func (w *writer) words(list ...string) {
	for i, text := range list {
		if i > 0 {
			w.WriteString(" ")
		}
		w.WriteString(text)
	}
}

func (w *writer) terms(q api.Query) {
	for i, term := range q.Terms {
		w.WriteString(" ")
		w.WriteString(quoted(term))
		w.WriteString("@")
		w.WriteString(strconv.Itoa(q.Offs[i]))
	}
}

func (w *writer) kids(q api.Query) {
	for i, kid := range q.Kids {
		w.WriteString(" ")
		if q.Kind == api.QList {
			w.WriteString(sign(q.Occur[i]))
		}
		w.query(kid)
	}
}

// sign is what stands ahead of a list's kid.
func sign(occur int) string {
	switch occur {
	case api.Must:
		return "+"
	case api.MustNot:
		return "-"
	}
	return ""
}

func endText(x api.Bound) string {
	switch {
	case x.Open:
		return "*"
	case x.In:
		return "=" + quoted(x.Text)
	}
	return "!" + quoted(x.Text)
}

// quoted is a text in quotes, of bytes that can be shown alone.
func quoted(text string) string {
	const digits = "0123456789abcdef"
	out := make([]byte, 0, len(text)+2)
	out = append(out, '"')
	for i := range len(text) {
		c := text[i]
		if ' ' <= c && c <= '~' && c != '"' && c != '\\' {
			out = append(out, c)
		} else {
			out = append(out, '\\', digits[c>>4], digits[c&15])
		}
	}
	return string(append(out, '"'))
}
