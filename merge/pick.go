package merge

import "concord/api"

// tooGreat stands for every size with which no run fits.
const tooGreat = api.MaxDocs + 1

// mostLevels is above every level of a size up to tooGreat: with the least fan, 2, the level of 4097 is 12.
const mostLevels = 13

// Pick tells which neighbours to merge next: the first one's number, and how many; 0, 0 if none.
func Pick(sizes []int, fan int) (int, int) {
	if fan < 2 || len(sizes) < fan {
		return 0, 0
	}
	r := run{fan: fan}
	first, least := 0, mostLevels
	for i, size := range sizes {
		r.put(size)
		if i >= fan {
			r.take(sizes[i-fan])
		}
		if i >= fan-1 && r.ripe() && r.level() < least {
			first, least = i-(fan-1), r.level()
		}
	}
	if least == mostLevels {
		return 0, 0
	}
	return first, fan
}

// run is what fan neighbours come to: it goes along the sizes, so that each is put in and taken out once.
type run struct {
	fan    int
	sum    int
	levels [mostLevels]int // how many sizes have this level
}

func (r *run) put(size int) {
	size = bounded(size)
	r.sum += size
	r.levels[levelOf(size, r.fan)]++
}

func (r *run) take(size int) {
	size = bounded(size)
	r.sum -= size
	r.levels[levelOf(size, r.fan)]--
}

// level is the greatest level in the run.
func (r *run) level() int {
	e := mostLevels - 1
	for e > 0 && r.levels[e] == 0 {
		e--
	}
	return e
}

// ripe tells whether the run fits, and more than half of its sizes have its level.
func (r *run) ripe() bool {
	return r.sum <= api.MaxDocs && 2*r.levels[r.level()] > r.fan
}

// bounded is a size from 0 to tooGreat, so that no sum goes beyond an int. Which runs fit, and their levels, don't change by it.
func bounded(size int) int {
	return min(max(size, 0), tooGreat)
}

// levelOf is the greatest e with fan to the power e at most the size; 0 of a size below 1. It divides, for a power may go beyond an int.
func levelOf(size, fan int) int {
	e := 0
	for size >= fan {
		size /= fan
		e++
	}
	return e
}
