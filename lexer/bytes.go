package lexer

import "concord/api"

// The class of a mark or of a sign (plus, minus) is the kind of the token that it begins. The other classes are these: all bytes that the table doesn't name are letters.
const (
	letter = 0
	blank  = 100 + iota
	digit
	wild
	escape
	ending // the class of the place behind the last byte
)

// classes are the classes of the bytes up to the last one that isn't a letter.
var classes = [...]byte{
	' ': blank, '\t': blank, '\n': blank, '\r': blank,
	'(': api.LexOpen, ')': api.LexClose, '[': api.LexSquare, ']': api.LexSquared, '{': api.LexCurly, '}': api.LexCurled,
	':': api.LexColon, '|': api.LexBar, '^': api.LexBoost, '~': api.LexTilde, '@': api.LexLeast, '"': api.LexQuoted,
	'+': api.LexPlus, '-': api.LexMinus,
	'*': wild, '?': wild, '\\': escape,
	'0': digit, '1': digit, '2': digit, '3': digit, '4': digit, '5': digit, '6': digit, '7': digit, '8': digit, '9': digit,
}

// classOf is the class of a byte.
func classOf(b byte) int {
	if int(b) >= len(classes) {
		return letter
	}
	return int(classes[b])
}
