package schema

import (
	"strconv"
	"strings"
)

const (
	// termSize is the number of bytes of a number's term.
	termSize = 8
	// lift moves the least number to 0, so that words sort as their numbers do.
	lift = uint64(1) << 63
)

// NumberTerm is a number's term.
func NumberTerm(v int64) string {
	word := uint64(v) + lift
	var term [termSize]byte
	for i := range term {
		term[termSize-1-i] = byte(word >> (8 * i))
	}
	return string(term[:])
}

// TermNumber is the number of a term.
func TermNumber(term string) (int64, bool) {
	if len(term) != termSize {
		return 0, false
	}
	word := uint64(0)
	for i := range termSize {
		word = word<<8 | uint64(term[i])
	}
	return int64(word - lift), true
}

// ParseNumber reads a decimal number.
func ParseNumber(text string) (int64, bool) {
	// Of what ParseInt takes, a '+' alone is no part of a decimal number.
	if strings.HasPrefix(text, "+") {
		return 0, false
	}
	v, err := strconv.ParseInt(text, 10, 64)
	if err != nil {
		return 0, false
	}
	return v, true
}
