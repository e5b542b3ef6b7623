package bind_test

import (
	"fmt"
	"math"
	"math/rand"
	"strconv"
	"strings"
	"testing"

	"concord/api"
	"concord/bind"
)

// P16.1: the text of every kind.
func TestTexts(t *testing.T) {
	for want, q := range map[string]api.Query{
		"none": none, "all": all, "(has 0)": has(0), "(has 15)": has(15), `(term 3 "a b" 0)`: term(3, "a b", 0), `(term 0 "" 18446744073709551615)`: term(0, "", math.MaxUint64),
		`(phrase 1 2 3 "a"@0)`: phrase(1, 2, 3, []string{"a"}, 0), `(phrase 0 999999999 10 "b"@2147483646 ""@0 "b"@7)`: phrase(0, api.MaxNumber, 10, []string{"b", "", "b"}, 2147483646, 0, 7),
		`(prefix 2 "")`: prefix(2, ""), `(prefix 2 "*")`: prefix(2, "*"), `(wild 10 "a*?\5c*")`: wild(10, `a*?\*`), `(fuzzy 1 0 "x")`: fuzzy(1, 0, "x"), `(fuzzy 1 2 "")`: fuzzy(1, 2, ""),
		`(span 4 * *)`: span(4, open(), open()), `(span 4 ="a" !"b")`: span(4, within("a"), without("b")), `(span 4 * ="*")`: span(4, open(), within("*")), `(span 4 !"" *)`: span(4, without(""), open()),
		`(list 0 all)`: list(0, " ", all), `(list 7 +all)`: list(7, "+", all), `(list 999999999 -all)`: list(api.MaxNumber, "-", all), `(list 0 all +none -(has 1) (not all))`: list(0, " +- ", all, none, has(1), not(all)), `(list 0 +(list 0 -(list 0 all)))`: list(0, "+", list(0, "-", list(0, " ", all))),
		`(max all)`: most(all), `(max all none (max all))`: most(all, none, most(all)), `(not none)`: not(none), `(not (not all))`: not(not(all)), `(boost 0 all)`: boost(0, all), `(boost 18446744073709551615 (const 1 all))`: boost(math.MaxUint64, fixed(1, all)), `(const 20 (boost 100 none))`: fixed(20, boost(100, none)),
	} {
		if got := bind.Text(q); got != want {
			t.Errorf("Text(%v) is %s, want %s", q, got, want)
		}
		holdQuery(t, q)
	}
}

// P16.1: all bytes, each by itself and beside others, wherever a text is quoted.
func TestQuotedBytes(t *testing.T) {
	for i := range 256 {
		form := string([]byte{byte(i)})
		if i < ' ' || i > '~' || i == '"' || i == '\\' {
			form = fmt.Sprintf(`\%x%x`, i/16, i%16)
		}
		for _, around := range []string{"X", "aX", "Xa", "XX", "\x00X", "X7f"} {
			text := strings.ReplaceAll(around, "X", string([]byte{byte(i)}))
			quoted := `"` + strings.ReplaceAll(strings.ReplaceAll(around, "\x00", `\00`), "X", form) + `"`
			for want, q := range map[string]api.Query{
				"(term 0 " + quoted + " 0)": term(0, text, 0), "(prefix 0 " + quoted + ")": prefix(0, text), "(fuzzy 0 1 " + quoted + ")": fuzzy(0, 1, text),
				"(span 0 =" + quoted + " !" + quoted + ")": span(0, within(text), without(text)), "(phrase 0 0 0 " + quoted + "@0 " + quoted + "@1)": phrase(0, 0, 0, []string{text, text}, 0, 1), `(max (term 0 ` + quoted + ` 5))`: most(term(0, text, 5)),
			} {
				if got := bind.Text(q); got != want {
					t.Errorf("Text(%v) is %s, want %s", q, got, want)
				}
				holdText(t, q)
			}
		}
	}
}

// P16.1: queries that aren't good over MaxFields fields have no text, those that are over so many have one.
func TestNoTexts(t *testing.T) {
	for _, q := range []api.Query{{}, {Kind: 15}, {Kind: api.QAll, Field: 1}, has(-1), has(api.MaxFields), term(api.MaxFields, "a", 0), not(term(20, "a", 0)), wild(0, `\`), most(), not(all, all), list(0, "", all), phrase(0, 0, 0, []string{"a"}), span(0, api.Bound{Open: true, Text: "a"}, open()), fuzzy(0, 3, "a"), most(all, api.Query{})} {
		if got := bind.Text(q); got != "" {
			t.Errorf("Text(%v) is %s", q, got)
		}
		for _, wrap := range wraps {
			if got := bind.Text(wrap(q)); got != "" {
				t.Errorf("Text(%v) is %s", wrap(q), got)
			}
		}
	}
	for _, q := range []api.Query{has(api.MaxFields - 1), prefix(api.MaxFields-1, ""), fuzzy(api.MaxFields-1, 0, "")} {
		if bind.Text(q) == "" {
			t.Errorf("%v has no text", q)
		}
	}
}

// reader reads a text back to the query that it is the text of.
type reader struct {
	rest string
	bad  bool
}

// take takes what the rest begins with, if it does.
func (r *reader) take(text string) bool {
	if !strings.HasPrefix(r.rest, text) {
		return false
	}
	r.rest = r.rest[len(text):]
	return true
}

// need takes what the rest must begin with.
func (r *reader) need(text string) {
	r.bad = !r.take(text) || r.bad
}

// number takes a blank and a number.
func (r *reader) number() uint64 {
	r.need(" ")
	end := strings.IndexFunc(r.rest+")", func(c rune) bool { return c < '0' || c > '9' })
	digits := r.rest[:end]
	v, err := strconv.ParseUint(digits, 10, 64)
	r.bad = r.bad || err != nil || strconv.FormatUint(v, 10) != digits
	r.rest = r.rest[end:]
	return v
}

func (r *reader) quoted() string {
	r.need(`"`)
	var out []byte
	for !r.bad && !r.take(`"`) {
		escaped := r.take(`\`)
		size := map[bool]int{true: 2, false: 1}[escaped]
		if len(r.rest) < size {
			r.bad = true
			break
		}
		c := r.rest[0]
		if escaped {
			v, err := strconv.ParseUint(r.rest[:2], 16, 8)
			r.bad = r.bad || err != nil
			c = byte(v)
		}
		out, r.rest = append(out, c), r.rest[size:]
	}
	return string(out)
}

func (r *reader) end() api.Bound {
	r.need(" ")
	switch {
	case r.take("*"):
		return open()
	case r.take("="):
		return within(r.quoted())
	}
	r.need("!")
	return without(r.quoted())
}

func (r *reader) text() string {
	r.need(" ")
	return r.quoted()
}

// kids takes what stands up to the closing bracket.
func (r *reader) kids(q api.Query) api.Query {
	for !r.bad && r.take(" ") {
		if q.Kind == api.QList {
			occur := api.Should
			if r.take("+") {
				occur = api.Must
			} else if r.take("-") {
				occur = api.MustNot
			}
			q.Occur = append(q.Occur, occur)
		}
		q.Kids = append(q.Kids, r.query())
	}
	return q
}

func (r *reader) query() api.Query {
	var q api.Query
	switch {
	case r.take("none"):
		return none
	case r.take("all"):
		return all
	case r.take("(has"):
		q = has(int(r.number()))
	case r.take("(term"):
		field, text, weight := int(r.number()), r.text(), r.number()
		q = term(field, text, weight)
	case r.take("(phrase"):
		field, n, weight := int(r.number()), int(r.number()), r.number()
		q = phrase(field, n, weight, nil)
		for !r.bad && strings.HasPrefix(r.rest, " ") {
			q.Terms = append(q.Terms, r.text())
			r.need("@")
			r.rest = " " + r.rest
			q.Offs = append(q.Offs, int(r.number()))
		}
	case r.take("(prefix"):
		field, text := int(r.number()), r.text()
		q = prefix(field, text)
	case r.take("(wild"):
		field, text := int(r.number()), r.text()
		q = wild(field, text)
	case r.take("(fuzzy"):
		field, n, text := int(r.number()), int(r.number()), r.text()
		q = fuzzy(field, n, text)
	case r.take("(span"):
		field, lo, hi := int(r.number()), r.end(), r.end()
		q = span(field, lo, hi)
	case r.take("(list"):
		q = r.kids(list(int(r.number()), ""))
	case r.take("(max"):
		q = r.kids(most())
	case r.take("(not"):
		q = r.kids(not())
	case r.take("(boost"):
		q = r.kids(boost(r.number()))
	case r.take("(const"):
		q = r.kids(fixed(r.number()))
	}
	r.need(")")
	return q
}

// holdText says that a good query can be read back from its text, so that no other one has it, and that the text has no byte below 32 or above 126.
func holdText(t testing.TB, q api.Query) string {
	t.Helper()
	text := bind.Text(q)
	if text == "" {
		t.Fatalf("%s has no text", brief(q))
	}
	for i := range len(text) {
		if text[i] < 32 || text[i] > 126 {
			t.Fatalf("Text(%s) is %q", brief(q), text)
		}
	}
	r := reader{rest: text}
	if back := r.query(); r.bad || r.rest != "" || !alike(back, q) {
		t.Fatalf("Text(%s) is %s, which is read as %s", brief(q), text, brief(back))
	}
	return text
}

// P16.4: many good queries, and pairs of them that differ in one place.
func TestOneTextOneQuery(t *testing.T) {
	m := newMaker(164)
	pairs := 0
	for range 20000 {
		q := m.within(12).query(api.MaxFields)
		text := holdText(t, q)
		if again := bind.Text(copied(q)); again != text {
			t.Fatalf("%s has the texts %s and %s", brief(q), text, again)
		}
		for range 5 {
			other := m.change(q)
			if !modelGood(other, api.MaxFields) {
				continue
			}
			pairs++
			if holdText(t, other) == text || bind.Same(q, other) {
				t.Fatalf("%s and %s both have the text %s", brief(q), brief(other), text)
			}
		}
	}
	if pairs < 5000 {
		t.Errorf("%d pairs are good", pairs)
	}
}

// P16.4: small queries, each against each.
func TestEveryTextAgainstEvery(t *testing.T) {
	leaves := []api.Query{none, all, has(0), has(1), has(10), term(0, "", 0), term(0, "", 1), term(0, "a", 0), term(1, "a", 0), term(0, `a" 0)`, 0), term(0, `\61`, 0), term(0, "\x01", 0), prefix(0, "a"), prefix(0, `\`), wild(0, "a"), wild(0, `\\`), fuzzy(0, 0, "a"), fuzzy(0, 1, "a"), fuzzy(1, 0, "a"), span(0, open(), open()), span(0, within("*"), open()), span(0, open(), without("*")), span(0, without("*"), open()), span(0, within(""), without("")),
		phrase(0, 0, 0, []string{"a"}, 0), phrase(0, 0, 1, []string{"a"}, 0), phrase(0, 1, 0, []string{"a"}, 0), phrase(1, 0, 0, []string{"a"}, 0), phrase(0, 0, 0, []string{"a"}, 1), phrase(0, 0, 0, []string{"a", "b"}, 0, 1), phrase(0, 0, 0, []string{"a", "b"}, 1, 0), phrase(0, 0, 0, []string{`a"@0 "b`}, 1)}
	queries := leaves
	for _, x := range leaves {
		queries = append(queries, not(x), boost(0, x), boost(1, x), fixed(0, x), most(x), list(0, " ", x), list(0, "+", x), list(0, "-", x), list(1, " ", x))
		for _, y := range leaves[:8] {
			queries = append(queries, most(x, y), list(0, "  ", x, y), list(0, "+ ", x, y), list(0, " +", x, y), most(most(x), y), most(x, most(y)), most(most(x, y)))
		}
	}
	seen := map[string]api.Query{}
	for _, q := range queries {
		text := holdText(t, q)
		if first, ok := seen[text]; ok && !alike(first, q) {
			t.Errorf("%v and %v both have the text %s", first, q, text)
		}
		seen[text] = q
	}
	if len(seen) < 1500 {
		t.Errorf("%d texts", len(seen))
	}
}

// FuzzQuery holds Check, Same, Size and Text over made queries, and over ones with one thing changed.
func FuzzQuery(f *testing.F) {
	f.Add(int64(1), uint8(3))
	f.Add(int64(2), uint8(100))
	f.Fuzz(func(t *testing.T, seed int64, room uint8) {
		m := &maker{Rand: rand.New(rand.NewSource(seed))}
		q := m.within(int(room) + 1).query(api.MaxFields)
		holdQuery(t, q)
		holdText(t, q)
		other := m.change(q)
		holdQuery(t, other)
		if bind.Same(q, other) != alike(q, other) {
			t.Fatalf("Same(%s, %s) is %v", brief(q), brief(other), !alike(q, other))
		}
	})
}
