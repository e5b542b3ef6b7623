package cursor

import (
	"cmp"
	"slices"

	"concord/api"
)

const (
	// mostPosition is the greatest position and the greatest offset of a phrase's word.
	mostPosition = api.EndDoc - 1
	// mostSlop is the greatest slop of a phrase.
	mostSlop = api.EndDoc
)

// spot is where the phrase would begin if a word of it stood at one of the word's positions.
type spot struct {
	at   int
	word int
}

// PhraseFreq counts the places at which a phrase begins.
func PhraseFreq(lists [][]int, offs []int, slop int) int {
	if len(lists) != len(offs) || slop < 0 || slop > mostSlop || !keepLimits(offs) {
		return 0
	}
	for _, list := range lists {
		if !keepLimits(list) {
			return 0
		}
	}
	return countBegins(spotsOf(lists, offs), len(lists), slop)
}

// keepLimits tells whether all of these positions or offsets are within their limits.
func keepLimits(list []int) bool {
	for _, x := range list {
		if x < 0 || x > mostPosition {
			return false
		}
	}
	return true
}

// spotsOf are the spots of all words, from the least place on; those of one place stand in any order.
func spotsOf(lists [][]int, offs []int) []spot {
	var spots []spot
	for word, list := range lists {
		for _, p := range list {
			spots = append(spots, spot{at: p - offs[word], word: word})
		}
	}
	slices.SortFunc(spots, func(a, b spot) int {
		return cmp.Compare(a.at, b.at)
	})
	return spots
}

// countBegins counts the unlike places of spots from which on, up to slop further, each of so many words has a spot. A window over the sorted spots goes from place to place, so that each spot comes in once and goes out once.
func countBegins(spots []spot, words, slop int) int {
	inside := make([]int, words)
	met, end, count := 0, 0, 0
	for i, first := range spots {
		for ; end < len(spots) && spots[end].at <= first.at+slop; end++ {
			word := spots[end].word
			if inside[word] == 0 {
				met++
			}
			inside[word]++
		}
		isNew := i == 0 || spots[i-1].at != first.at
		if isNew && met == words {
			count++
		}
		inside[first.word]--
		if inside[first.word] == 0 {
			met--
		}
	}
	return count
}
