package auto

// fuzzy accepts what is at most so many edits away from its word. A state tells, for the first i bytes of the word, how many edits away they are: the least i for which that isn't more than edits, and the numbers from there on up to the last such i. What is left out is more than edits.
type fuzzy struct {
	word  string
	edits int
}

func (x fuzzy) start() []int {
	state := []int{0}
	for i := range min(len(x.word), x.edits) + 1 {
		state = append(state, i)
	}
	return state
}

func (x fuzzy) next(state []int, b byte) []int {
	first, row := state[0], state[1:]
	far := x.edits + 1
	after := make([]int, 1, len(row)+2)
	after[0] = first
	left := far
	// Behind the row there is one more number at most: for a second one, the row would have gone on.
	for k := 0; k <= len(row) && first+k <= len(x.word); k++ {
		n := left + 1 // a byte of the word is dropped
		if k < len(row) {
			n = min(n, row[k]+1) // b is put in
		}
		if k > 0 {
			n = min(n, row[k-1]+changed(x.word[first+k-1], b))
		}
		left = min(n, far)
		after = append(after, left)
	}
	return trimmed(after, far)
}

// changed is the number of edits that make the one byte out of the other.
func changed(a, b byte) int {
	if a == b {
		return 0
	}
	return 1
}

// trimmed is the state without the numbers at both ends that are far, so that a description is told in one way alone.
func trimmed(state []int, far int) []int {
	first, row := state[0], state[1:]
	for len(row) > 0 && row[len(row)-1] == far {
		row = row[:len(row)-1]
	}
	if len(row) == 0 {
		return nil
	}
	k := 0
	for row[k] == far {
		k++
	}
	state = state[k : len(row)+1]
	state[0] = first + k
	return state
}

// accepts tells whether the last i that the state tells of is the whole word.
func (x fuzzy) accepts(state []int) bool {
	return state[0]+len(state)-2 == len(x.word)
}

func (x fuzzy) letters() string {
	return x.word
}

// Edits is the number of edits between two texts, or most+1 if it is more than most.
func Edits(a, b string, most int) int {
	// No two texts are further apart than the longer one is long; so most + 1 is no more than an int takes.
	most = min(max(most, 0), max(len(a), len(b)))
	x := fuzzy{a, most}
	state, _ := newAuto(x).behind(b)
	if !isAlive(state) || !x.accepts(state) {
		return most + 1
	}
	return state[len(state)-1]
}
