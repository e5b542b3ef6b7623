package auto

import "strings"

// An element of a pattern is a letter (its byte), a gap or a star.
const (
	gap  = 256
	star = 257
)

// wild accepts what its pattern matches. A state is the rising list of all i such that the first i elements match the text.
type wild struct {
	elements []int
	pattern  string
}

// elementsOf are the elements of a pattern; false, if the text is none. Of stars side by side one is kept: where the elements up to the first of them match, those up to the others match too, so texts are told apart as before.
func elementsOf(pattern string) ([]int, bool) {
	var list []int
	for i := 0; i < len(pattern); i++ {
		e := int(pattern[i])
		switch pattern[i] {
		case '?':
			e = gap
		case '*':
			e = star
		case '\\':
			i++
			if i == len(pattern) {
				return nil, false
			}
			e = int(pattern[i])
		}
		if n := len(list); e == star && n > 0 && list[n-1] == star {
			continue
		}
		list = append(list, e)
	}
	return list, true
}

func (x wild) start() []int {
	return x.reached(nil, 0)
}

func (x wild) next(state []int, b byte) []int {
	list := make([]int, 0, len(state)+2)
	for _, i := range state {
		if i > 0 && x.elements[i-1] == star {
			list = x.reached(list, i)
		}
		if i < len(x.elements) && (x.elements[i] == gap || x.elements[i] == int(b)) {
			list = x.reached(list, i+1)
		}
	}
	return list
}

// reached is the list with i at its end, and with what stars that match nothing lead on to. What isn't above the end stands in the list already, for the list is made by rising i.
func (x wild) reached(list []int, i int) []int {
	if n := len(list); n > 0 && i <= list[n-1] {
		return list
	}
	list = append(list, i)
	if i < len(x.elements) && x.elements[i] == star {
		list = append(list, i+1)
	}
	return list
}

func (x wild) accepts(state []int) bool {
	return state[len(state)-1] == len(x.elements)
}

func (x wild) letters() string {
	return x.pattern
}

// Good tells whether a text is a pattern.
func Good(pattern string) bool {
	_, ok := elementsOf(pattern)
	return ok
}

// Literal is the pattern that matches s alone.
func Literal(s string) string {
	var out strings.Builder
	for i := range len(s) {
		switch s[i] {
		case '*', '?', '\\':
			out.WriteByte('\\')
		}
		out.WriteByte(s[i])
	}
	return out.String()
}
