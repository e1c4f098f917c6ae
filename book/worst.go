package book

import "souterrain/api"

// worstFirst is a heap of segments, at whose top the one stands of which most is dead.
type worstFirst []api.Use

func (h worstFirst) Len() int { return len(h) }

// Less has no two segments be alike, so that it doesn't show in which order they were pushed.
func (h worstFirst) Less(i, j int) bool {
	x, y := dead(h[i]), dead(h[j])
	return x > y || x == y && h[i].Seg < h[j].Seg
}

func (h worstFirst) Swap(i, j int) { h[i], h[j] = h[j], h[i] }

func (h *worstFirst) Push(u any) { *h = append(*h, u.(api.Use)) }

func (h *worstFirst) Pop() any {
	last := len(*h) - 1
	u := (*h)[last]
	*h = (*h)[:last]
	return u
}

// dead is how much of a segment is not alive.
func dead(u api.Use) int64 { return u.All - u.Live }
