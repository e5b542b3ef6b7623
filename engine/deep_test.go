package engine_test

import (
	"strings"
	"testing"

	"concord/api"
)

// Rule 1: texts that are nested very deep are refused as those of 65 are.
func TestDeepTexts(t *testing.T) {
	e := twoIn(t)
	const deep = 1 << 15
	for _, q := range []string{in(deep, "red"), strings.Repeat("NOT ", deep) + "red", "red" + strings.Repeat("^1", deep), strings.Repeat("title:(", deep) + "red" + strings.Repeat(")@2", deep)} {
		wantError(t, e, q, api.ErrDeep)
		wantError(t, e, q+")", api.ErrSyntax)
		wantError(t, e, "("+q, api.ErrSyntax)
	}
}

// Rule 1: long texts, of which the count is small.
func TestLongTexts(t *testing.T) {
	e := twoIn(t)
	const long = 1 << 14
	wantHits(t, e, strings.Repeat("*:* ", long), api.Hit{Id: 0, Score: long * api.One}, api.Hit{Id: 1, Score: long * api.One})
	wantHits(t, e, "+tag:*"+strings.Repeat(" -z*", long), api.Hit{Id: 0, Score: api.One})
	wantHits(t, e, strings.Repeat("tag:* AND ", long)+"*:*", api.Hit{Id: 0, Score: (long + 1) * api.One})
	wantHits(t, e, strings.Repeat("title:* | ", long)+"*:*^2", api.Hit{Id: 0, Score: 2 * api.One}, api.Hit{Id: 1, Score: 2 * api.One})
	wantError(t, e, strings.Repeat("red ", long), api.ErrTerms)
}
