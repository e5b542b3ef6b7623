package topk

// heap holds things in a list: none goes above the one at (i - 1) / 2, if it stands at i itself, so that none goes above the first one, the top.
type heap[T any] struct {
	above func(a, b T) bool
	list  []T
}

// put puts one more in.
func (h *heap[T]) put(x T) {
	h.list = append(h.list, x)
	at := len(h.list) - 1
	for at > 0 {
		over := (at - 1) / 2
		if !h.above(x, h.list[over]) {
			break
		}
		h.list[at] = h.list[over]
		at = over
	}
	h.list[at] = x
}

// replaceTop puts one in for the top.
func (h *heap[T]) replaceTop(x T) {
	at := 0
	for {
		under, ok := h.under(at)
		if !ok || !h.above(h.list[under], x) {
			break
		}
		h.list[at] = h.list[under]
		at = under
	}
	h.list[at] = x
}

// under is the place of the upper one of the two, or of the one, that stand right under the place at; false, if there is none.
func (h *heap[T]) under(at int) (int, bool) {
	left, right := 2*at+1, 2*at+2
	if right < len(h.list) && h.above(h.list[right], h.list[left]) {
		return right, true
	}
	return left, left < len(h.list)
}
