package work

import (
	"container/heap"

	"tammy/api"
)

// pair is a constraint that can be held against another one.
type pair api.Pair

// isLess is by the first number, then by the second one.
func (p pair) isLess(q pair) bool { return p[0] < q[0] || p[0] == q[0] && p[1] < q[1] }

// waiting is what the library's heap asks of a row, and the pairs of it.
type waiting interface {
	heap.Interface
	all() []api.Pair
}

// row is pairs that wait, and how one of them is less than another one.
type row struct {
	pairs  []api.Pair
	isLess func(p, q pair) bool
}

// waitingOf is a row of a copy of l, with room for one more, since the heap changes it in place.
func waitingOf(l []api.Pair) waiting {
	return &row{pairs: append(make([]api.Pair, 0, len(l)+1), l...), isLess: pair.isLess}
}

// lay lets one more wait.
func lay(r waiting, p api.Pair) { heap.Push(r, p) }

// take takes the least one.
func take(r waiting) api.Pair { return heap.Pop(r).(api.Pair) }

func (r *row) Len() int { return len(r.pairs) }

func (r *row) Less(i, j int) bool { return r.isLess(pair(r.pairs[i]), pair(r.pairs[j])) }

func (r *row) Swap(i, j int) { r.pairs[i], r.pairs[j] = r.pairs[j], r.pairs[i] }

// Push lays one behind; the heap moves it to where it belongs.
func (r *row) Push(p any) { r.pairs = append(r.pairs, p.(api.Pair)) }

// Pop takes the last one, to where the heap has moved the least.
func (r *row) Pop() any {
	last := len(r.pairs) - 1
	p := r.pairs[last]
	r.pairs = r.pairs[:last]
	return p
}

func (r *row) all() []api.Pair { return r.pairs }
