package fold

import (
	"container/heap"

	"souterrain/api"
)

// list is as which one a list of hints was handed in, and what of it is still to come.
type list struct {
	no   int
	left []api.Hint
}

// nexts is a heap of lists of which something is left, at whose top the one stands whose next key is the least; of those with like keys the last one. They are pointers, so that no new memory is taken for each hint.
type nexts []*list

func (h nexts) Len() int { return len(h) }

// Less has no two lists be alike, so that it doesn't show in which order they were pushed.
func (h nexts) Less(i, j int) bool {
	x, y := h[i].left[0].Key, h[j].left[0].Key
	return x < y || x == y && h[i].no > h[j].no
}

func (h nexts) Swap(i, j int) { h[i], h[j] = h[j], h[i] }

func (h *nexts) Push(l any) { *h = append(*h, l.(*list)) }

func (h *nexts) Pop() any {
	last := len(*h) - 1
	l := (*h)[last]
	*h = (*h)[:last]
	return l
}

// put has what is left of a list stand in the heap, if anything is.
func (h *nexts) put(l *list) {
	if len(l.left) > 0 {
		heap.Push(h, l)
	}
}

// take is the next hint of all, and as which one its list was handed in. What is left of that list stands in the heap again.
func (h *nexts) take() (int, api.Hint) {
	l := heap.Pop(h).(*list)
	next := l.left[0]
	l.left = l.left[1:]
	h.put(l)
	return l.no, next
}

// key is that of the next hint of all.
func (h nexts) key() string { return h[0].left[0].Key }
