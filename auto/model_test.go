package auto_test

import (
	"fmt"
	"slices"
	"strings"
	"testing"

	"concord/api"
	"concord/auto"
)

// This file says the chapter once more: what each kind accepts, which texts are alive and how they are described, asked of whole texts and never byte by byte; and the least table by splitting states as long as a byte tells two of them apart.

const (
	isExact = iota
	isPrefix
	isWild
	isFuzzy
	isSpan
)

// told is an automaton by what it was made of.
type told struct {
	kind   int
	text   string
	edits  int
	lo, hi api.Bound
}

func exactly(word string) told         { return told{kind: isExact, text: word} }
func heading(head string) told         { return told{kind: isPrefix, text: head} }
func wildly(pattern string) told       { return told{kind: isWild, text: pattern} }
func nearly(word string, n int) told   { return told{kind: isFuzzy, text: word, edits: n} }
func between(lo, hi api.Bound) told    { return told{kind: isSpan, lo: lo, hi: hi} }
func in(text string) api.Bound         { return api.Bound{In: true, Text: text} }
func out(text string) api.Bound        { return api.Bound{Text: text} }
func open(in bool, s string) api.Bound { return api.Bound{Open: true, In: in, Text: s} }

func (x told) String() string {
	switch x.kind {
	case isExact:
		return fmt.Sprintf("Exact(%q)", x.text)
	case isPrefix:
		return fmt.Sprintf("Prefix(%q)", x.text)
	case isWild:
		return fmt.Sprintf("Wild(%q)", x.text)
	case isFuzzy:
		return fmt.Sprintf("Fuzzy(%q, %d)", x.text, x.edits)
	}
	return fmt.Sprintf("Span(%v %v %q, %v %v %q)", x.lo.Open, x.lo.In, x.lo.Text, x.hi.Open, x.hi.In, x.hi.Text)
}

// made is what the package makes of it.
func (x told) made(t testing.TB) *auto.Auto {
	t.Helper()
	var a *auto.Auto
	var err error
	switch x.kind {
	case isExact:
		a = auto.Exact(x.text)
	case isPrefix:
		a = auto.Prefix(x.text)
	case isWild:
		a, err = auto.Wild(x.text)
	case isFuzzy:
		a, err = auto.Fuzzy(x.text, x.edits)
	case isSpan:
		a = auto.Span(x.lo, x.hi)
	}
	if a == nil || err != nil {
		t.Fatalf("%v answers %v and %v", x, a, err)
	}
	return a
}

// modelElements are a pattern's elements, each as the texts of one byte that it stands for; a star is nil.
func modelElements(pattern string) ([]func(byte) bool, bool) {
	var list []func(byte) bool
	for rest := pattern; rest != ""; rest = rest[1:] {
		if rest == "\\" {
			return nil, false
		}
		if rest[0] == '*' {
			list = append(list, nil)
			continue
		}
		if rest[0] == '?' {
			list = append(list, func(byte) bool { return true })
			continue
		}
		if rest[0] == '\\' {
			rest = rest[1:]
		}
		letter := rest[0]
		list = append(list, func(b byte) bool { return b == letter })
	}
	return list, true
}

// modelMatches cuts the text in pieces from its end on.
func modelMatches(elements []func(byte) bool, s string) bool {
	if len(elements) == 0 {
		return s == ""
	}
	ahead, last := elements[:len(elements)-1], elements[len(elements)-1]
	if last != nil {
		return s != "" && last(s[len(s)-1]) && modelMatches(ahead, s[:len(s)-1])
	}
	for n := range len(s) + 1 {
		if modelMatches(ahead, s[:n]) {
			return true
		}
	}
	return false
}

// modelEdits fills the whole square of the numbers between heads of both texts.
func modelEdits(a, b string) int {
	return modelRow(a, b)[len(b)]
}

// modelRow is the number of edits between s and each head of the word.
func modelRow(s, word string) []int {
	square := make([][]int, len(s)+1)
	for i := range square {
		square[i] = make([]int, len(word)+1)
		for j := range square[i] {
			switch {
			case i == 0:
				square[i][j] = j
			case j == 0:
				square[i][j] = i
			case s[i-1] == word[j-1]:
				square[i][j] = square[i-1][j-1]
			default:
				square[i][j] = 1 + min(square[i-1][j-1], square[i-1][j], square[i][j-1])
			}
		}
	}
	return square[len(s)]
}

func (x told) accepts(s string) bool {
	switch x.kind {
	case isExact:
		return s == x.text
	case isPrefix:
		return strings.HasPrefix(s, x.text)
	case isWild:
		elements, _ := modelElements(x.text)
		return modelMatches(elements, s)
	case isFuzzy:
		return modelEdits(s, x.text) <= x.edits
	}
	above := x.lo.Open || strings.Compare(s, x.lo.Text) > 0 || x.lo.In && s == x.lo.Text
	below := x.hi.Open || strings.Compare(s, x.hi.Text) < 0 || x.hi.In && s == x.hi.Text
	return above && below
}

// alive asks whether there is anything to put behind s.
func (x told) alive(s string) bool {
	switch x.kind {
	case isExact:
		return strings.HasPrefix(x.text, s)
	case isPrefix:
		return strings.HasPrefix(x.text, s) || strings.HasPrefix(s, x.text)
	case isWild:
		return len(x.heads(s)) > 0
	case isFuzzy:
		return slices.Min(modelRow(s, x.text)) <= x.edits
	}
	// The least text that begins with s and keeps lo is one of these.
	for _, whole := range []string{s, x.lo.Text, x.lo.Text + "\x00"} {
		if strings.HasPrefix(whole, s) && x.accepts(whole) {
			return true
		}
	}
	return false
}

// heads are all i such that the first i elements of the pattern match s.
func (x told) heads(s string) []int {
	elements, _ := modelElements(x.text)
	var list []int
	for i := range len(elements) + 1 {
		if modelMatches(elements[:i], s) {
			list = append(list, i)
		}
	}
	return list
}

// description is the chapter's.
func (x told) description(s string) string {
	if !x.alive(s) {
		return "dead"
	}
	switch x.kind {
	case isExact:
		return fmt.Sprint(len(s))
	case isPrefix:
		return fmt.Sprint(min(len(s), len(x.text)))
	case isWild:
		return fmt.Sprint(x.heads(s))
	case isFuzzy:
		row := modelRow(s, x.text)
		for i := range row {
			row[i] = min(row[i], x.edits+1)
		}
		return fmt.Sprint(row)
	}
	part := func(b api.Bound) int {
		if !b.Open && strings.HasPrefix(b.Text, s) {
			return len(s)
		}
		return -1
	}
	return fmt.Sprint(part(x.lo), part(x.hi))
}

// modelGraph has a state for each description, told by one of its texts, and goes on from these by every byte.
type modelGraph struct {
	texts []string
	next  [][256]int
}

func (x told) graph() modelGraph {
	g := modelGraph{texts: []string{""}}
	numbers := map[string]int{x.description(""): 0}
	for at := 0; at < len(g.texts); at++ {
		var row [256]int
		for b := range 256 {
			s := g.texts[at] + string([]byte{byte(b)})
			d := x.description(s)
			n, ok := numbers[d]
			if !ok {
				n = len(g.texts)
				numbers[d] = n
				g.texts = append(g.texts, s)
			}
			row[b] = n
		}
		g.next = append(g.next, row)
	}
	return g
}

// modelTable is the least table, and the number of descriptions.
func (x told) table() (api.Table, int) {
	g := x.graph()
	accept := make([]bool, len(g.texts))
	for s, text := range g.texts {
		accept[s] = x.accepts(text)
	}
	class := modelClasses(g.next, accept)
	var t api.Table
	number := map[int]int{class[0]: 0}
	for order := []int{0}; len(order) > 0; order = order[1:] {
		t.Accept = append(t.Accept, accept[order[0]])
		for _, to := range g.next[order[0]] {
			n, ok := number[class[to]]
			if !ok {
				n = len(number)
				number[class[to]] = n
				order = append(order, to)
			}
			t.Next = append(t.Next, n)
		}
	}
	return t, len(g.texts)
}

// modelClasses splits classes by what each byte leads to, over and over, till there are no more of them.
func modelClasses(next [][256]int, accept []bool) []int {
	class := make([]int, len(next))
	count := 1
	telling := unlikeBytes(next)
	for {
		numbers := map[string]int{}
		finer := make([]int, len(next))
		for s := range next {
			row := []rune{0}
			if accept[s] {
				row[0] = 1
			}
			for _, b := range telling {
				row = append(row, rune(class[next[s][b]]))
			}
			if _, ok := numbers[string(row)]; !ok {
				numbers[string(row)] = len(numbers)
			}
			finer[s] = numbers[string(row)]
		}
		if len(numbers) == count {
			return class
		}
		class, count = finer, len(numbers)
	}
}

// unlikeBytes leaves out bytes that lead everywhere to where another one leads.
func unlikeBytes(next [][256]int) []int {
	var list []int
	seen := map[string]bool{}
	for b := range 256 {
		var column []rune
		for s := range next {
			column = append(column, rune(next[s][b]))
		}
		if !seen[string(column)] {
			seen[string(column)] = true
			list = append(list, b)
		}
	}
	return list
}
