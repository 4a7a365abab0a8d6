package cyc

import "slices"

// ways are shortest ways from one variable: of each one that is reached, from which other one it is; of the one itself, it.
type ways map[int]int

// search is the ways from start, of as many steps as end needs, or depth allows.
func search(next [][]int, start, end, depth int) ways {
	w, reached := ways{start: start}, []int{start}
	for range depth {
		if len(reached) == 0 || w.has(end) {
			break
		}
		reached = w.step(next, reached)
	}
	return w
}

func (w ways) has(v int) bool {
	_, is := w[v]
	return is
}

// step goes one step on from those that were reached last, and tells whom it reaches. Both rise, so that the least one of those to whom somebody is next is the one from which it is reached.
func (w ways) step(next [][]int, reached []int) []int {
	var out []int
	for _, from := range reached {
		for _, to := range next[from] {
			if !w.has(to) {
				w[to] = from
				out = append(out, to)
			}
		}
	}
	slices.Sort(out)
	return out
}

// to is the way to one variable, from where all begin.
func (w ways) to(v int) []int {
	if !w.has(v) {
		return nil
	}
	out := []int{v}
	for w[v] != v {
		v = w[v]
		out = append(out, v)
	}
	slices.Reverse(out)
	return out
}
