package tokens

import (
	"strings"

	"concord/api"
)

// Words splits a text, ahead of any chain.
func Words(text string) []api.Token {
	var list []api.Token
	for at := 0; at < len(text); {
		if !inWord(text, at) {
			at++
			continue
		}
		end := wordEnd(text, at)
		list = append(list, api.Token{
			Text:  strings.Clone(text[at:end]),
			Pos:   len(list),
			Start: at,
			End:   end,
		})
		at = end
	}
	return list
}

// wordEnd is the place behind the word that begins at start.
func wordEnd(text string, start int) int {
	end := start
	for end < len(text) && inWord(text, end) {
		end++
	}
	return end
}

// inWord tells whether the byte at a place is a word byte or a mark inside.
func inWord(text string, at int) bool {
	if wordByte(text[at]) {
		return true
	}
	if at == 0 || at == len(text)-1 {
		return false
	}
	ahead, behind := text[at-1], text[at+1]
	switch text[at] {
	case '\'':
		return wordByte(ahead) && wordByte(behind)
	case '.':
		return digit(ahead) && digit(behind)
	}
	return false
}

func wordByte(c byte) bool {
	return small(c) || capital(c) || digit(c) || c == '_' || c >= 128
}

func small(c byte) bool {
	return 'a' <= c && c <= 'z'
}

func capital(c byte) bool {
	return 'A' <= c && c <= 'Z'
}

func digit(c byte) bool {
	return '0' <= c && c <= '9'
}
