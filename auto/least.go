package auto

import (
	"cmp"
	"slices"
)

// partition is a cut of a graph's states into groups.
type partition struct {
	group   []int
	members [][]int
}

// alike is the group of each state, where two states are of one group just if every text is accepted from both of them or from none.
//
// This is Hopcroft's way: a group tells the states that go to it from those that don't, and so splits other groups. Each group does so once: of two halves of a group that had its turn, one is enough, and so the smaller one is the new group.
func (g *graph) alike() []int {
	p := newPartition(g.accept)
	columns := g.reversed()
	for at := 0; at < len(p.members); at++ {
		target := p.members[at]
		for _, into := range columns {
			p.splitBy(allInto(target, into))
		}
	}
	return p.group
}

// newPartition cuts the states in those that accept and those that don't.
func newPartition(accept []bool) *partition {
	p := &partition{group: make([]int, len(accept))}
	var first, second []int
	for s := range accept {
		if accept[s] == accept[0] {
			first = append(first, s)
		} else {
			second = append(second, s)
			p.group[s] = 1
		}
	}
	p.members = append(p.members, first)
	if len(second) > 0 {
		p.members = append(p.members, second)
	}
	return p
}

// reversed tells for each column and state which states go to it.
func (g *graph) reversed() [][][]int {
	columns := make([][][]int, len(g.next[0]))
	for c := range columns {
		columns[c] = make([][]int, len(g.next))
		for s, row := range g.next {
			columns[c][row[c]] = append(columns[c][row[c]], s)
		}
	}
	return columns
}

// allInto are the states that go to a state of target.
func allInto(target []int, into [][]int) []int {
	var list []int
	for _, s := range target {
		list = append(list, into[s]...)
	}
	return list
}

// splitBy splits each group that has states among these and others too. The list becomes the partition's.
func (p *partition) splitBy(states []int) {
	slices.SortFunc(states, func(a, b int) int {
		return cmp.Or(cmp.Compare(p.group[a], p.group[b]), cmp.Compare(a, b))
	})
	for len(states) > 0 {
		n := 1
		for n < len(states) && p.group[states[n]] == p.group[states[0]] {
			n++
		}
		p.split(states[:n:n])
		states = states[n:]
	}
}

// split cuts the rising states of part off their group, if it has others.
func (p *partition) split(part []int) {
	old := p.group[part[0]]
	if len(part) == len(p.members[old]) {
		return
	}
	rest := slices.DeleteFunc(slices.Clone(p.members[old]), func(s int) bool {
		_, ok := slices.BinarySearch(part, s)
		return ok
	})
	if len(rest) < len(part) {
		part, rest = rest, part
	}
	p.members[old] = rest
	for _, s := range part {
		p.group[s] = len(p.members)
	}
	p.members = append(p.members, part)
}
