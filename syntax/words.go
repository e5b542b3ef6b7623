package syntax

import "concord/api"

// isStar tells whether a token is the grammar's Star.
func isStar(token api.Lex) bool {
	return token.Kind == api.LexPattern && token.Text == "*"
}

// isEdits tells whether a token is the grammar's Edits.
func isEdits(token api.Lex) bool {
	if token.Kind != api.LexTilde {
		return false
	}
	return token.N == -1 || token.N == 1 || token.N == 2
}

// isSlop tells whether a token is the grammar's Slop.
func isSlop(token api.Lex) bool {
	return token.Kind == api.LexTilde && token.N >= 0
}
