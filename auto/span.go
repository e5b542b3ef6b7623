package auto

import "concord/api"

// aside stands in a state for a bound whose text no longer begins with the text so far: whatever follows keeps it.
const aside = -1

// span accepts what keeps both bounds. A state has two numbers, one for each bound: how many bytes of its text there are so far, or aside.
type span struct {
	lo, hi api.Bound
}

func (x span) start() []int {
	if x.isEmpty() {
		return nil
	}
	return []int{startOf(x.lo), startOf(x.hi)}
}

func startOf(x api.Bound) int {
	if x.Open {
		return aside
	}
	return 0
}

// isEmpty tells whether no text keeps both bounds: then the least one that keeps lo doesn't keep hi.
func (x span) isEmpty() bool {
	least := x.lo.Text
	if !x.lo.Open && !x.lo.In {
		least += "\x00"
	}
	if x.hi.Open || least < x.hi.Text {
		return false
	}
	return least > x.hi.Text || !x.hi.In
}

func (x span) next(state []int, b byte) []int {
	lo, loOrder := beside(x.lo.Text, state[0], b)
	hi, hiOrder := beside(x.hi.Text, state[1], b)
	if loOrder < 0 || hiOrder > 0 {
		return nil
	}
	if hi == len(x.hi.Text) && !x.hi.In {
		return nil
	}
	return []int{lo, hi}
}

// beside takes one more byte to a text that has been the first n bytes of a bound's, or aside of it: how many it is now, and whether it has just become less or greater than the bound's, for good.
func beside(bound string, n int, b byte) (int, int) {
	switch {
	case n == aside:
		return aside, 0
	case n == len(bound) || b > bound[n]:
		return aside, 1
	case b < bound[n]:
		return aside, -1
	}
	return n + 1, 0
}

// accepts needs not ask for hi: a text that is alive is less than hi, or hi itself where that is in.
func (x span) accepts(state []int) bool {
	return state[0] == aside || state[0] == len(x.lo.Text) && x.lo.In
}

func (x span) letters() string {
	return x.lo.Text + x.hi.Text
}
