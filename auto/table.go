package auto

import "concord/api"

// graph is the automaton whose states are the descriptions, by number, from the start's on.
type graph struct {
	// column puts bytes together that no state tells apart.
	column [256]int
	// next is where a state goes at each column.
	next   [][]int
	accept []bool
}

// Table is the least complete deterministic automaton that accepts the same, in its one numbering; ErrStates if there are more than most descriptions.
func (a *Auto) Table(most int) (api.Table, error) {
	g, ok := a.described(min(most, api.MaxStates))
	if !ok {
		return api.Table{}, api.ErrStates
	}
	return g.laidOut(g.alike()), nil
}

// described is the graph of all descriptions; false, if there are more than most.
func (a *Auto) described(most int) (*graph, bool) {
	g := &graph{}
	var firsts []byte
	g.column, firsts = columnsOf(a.kind.letters())
	states := newNumbers()
	states.of(a.start)
	for at := 0; at < len(states.lists) && len(states.lists) <= most; at++ {
		state := states.lists[at]
		row := make([]int, len(firsts))
		for c, b := range firsts {
			row[c] = states.of(a.behindByte(state, b))
		}
		g.next = append(g.next, row)
		g.accept = append(g.accept, isAlive(state) && a.kind.accepts(state))
	}
	return g, len(states.lists) <= most
}

// behindByte is the state behind one more byte, of dead states too.
func (a *Auto) behindByte(state []int, b byte) []int {
	if !isAlive(state) {
		return nil
	}
	return a.kind.next(state, b)
}

// columnsOf numbers the bytes by rising columns, and tells the first byte of each: a letter has one alone, and so have the bytes between two letters, which are unlike all letters and greater than the same of them.
func columnsOf(letters string) ([256]int, []byte) {
	var isLetter [256]bool
	for i := range len(letters) {
		isLetter[letters[i]] = true
	}
	var column [256]int
	var firsts []byte
	for b := range 256 {
		if b == 0 || isLetter[b] || isLetter[b-1] {
			firsts = append(firsts, byte(b))
		}
		column[b] = len(firsts) - 1
	}
	return column, firsts
}

// numbers gives unlike lists unlike numbers, from 0 on.
type numbers struct {
	byKey map[string]int
	lists [][]int
}

func newNumbers() *numbers {
	return &numbers{byKey: map[string]int{}}
}

// of is the number of a list, the next one, if it is new. The list is kept.
func (n *numbers) of(list []int) int {
	key := keyOf(list)
	at, ok := n.byKey[key]
	if !ok {
		at = len(n.lists)
		n.byKey[key] = at
		n.lists = append(n.lists, list)
	}
	return at
}

// keyOf is a list as a map can hold it: four bytes for each number, which suffice for a place in a text.
func keyOf(list []int) string {
	key := make([]byte, 0, 4*len(list))
	for _, v := range list {
		key = append(key, byte(v), byte(v>>8), byte(v>>16), byte(v>>24))
	}
	return string(key)
}

// laidOut is the table with one state for each group of the graph's, numbered as they are met.
func (g *graph) laidOut(group []int) api.Table {
	met := make([]int, len(group)) // by group: its number and 1
	firsts := []int{0}             // by number: one of the group's states
	met[group[0]] = 1
	var t api.Table
	for at := 0; at < len(firsts); at++ {
		s := firsts[at]
		t.Accept = append(t.Accept, g.accept[s])
		for _, c := range g.column {
			to := g.next[s][c]
			if met[group[to]] == 0 {
				firsts = append(firsts, to)
				met[group[to]] = len(firsts)
			}
			t.Next = append(t.Next, met[group[to]]-1)
		}
	}
	return t
}
