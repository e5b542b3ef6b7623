package auto

// exact accepts its word. A state is the number of bytes so far.
type exact struct {
	word string
}

func (x exact) start() []int {
	return []int{0}
}

func (x exact) next(state []int, b byte) []int {
	n := state[0]
	if n == len(x.word) || b != x.word[n] {
		return nil
	}
	return []int{n + 1}
}

func (x exact) accepts(state []int) bool {
	return state[0] == len(x.word)
}

func (x exact) letters() string {
	return x.word
}

// prefix accepts what begins with its head. A state is the number of the head's bytes so far.
type prefix struct {
	head string
}

func (x prefix) start() []int {
	return []int{0}
}

func (x prefix) next(state []int, b byte) []int {
	n := state[0]
	if n == len(x.head) {
		return state
	}
	if b != x.head[n] {
		return nil
	}
	return []int{n + 1}
}

func (x prefix) accepts(state []int) bool {
	return state[0] == len(x.head)
}

func (x prefix) letters() string {
	return x.head
}
