package score

import (
	"strconv"
	"strings"

	"concord/api"
)

// Text is a score as a decimal text.
func Text(score uint64) string {
	text := strconv.AppendUint(nil, score/api.One, 10)
	rest := score % api.One
	if rest > 0 {
		text = append(text, '.')
	}
	// One divides 10^18: after 18 digits at most nothing is left.
	for rest > 0 {
		rest *= 10
		text = append(text, byte('0'+rest/api.One))
		rest %= api.One
	}
	return string(text)
}

// Parse reads a score's text.
func Parse(text string) (uint64, error) {
	whole, digits, _ := strings.Cut(text, ".")
	n, err := strconv.ParseUint(whole, 10, 64)
	if err != nil {
		return 0, api.ErrValue
	}
	// No other number can have this text: whether this one has it says all about its zeros, its digits and its size.
	score := n*api.One + partsOf(digits)
	if Text(score) != text {
		return 0, api.ErrValue
	}
	return score, nil
}

// partsOf is how many parts of One the digits behind a point are, rounded down; any number, if they aren't digits. Going from the last to the first, what is rounded off one place lower never makes up a whole part one place higher.
func partsOf(digits string) uint64 {
	parts := uint64(0)
	for i := len(digits) - 1; i >= 0; i-- {
		parts = (uint64(digits[i]-'0')*api.One + parts) / 10
	}
	return parts
}
