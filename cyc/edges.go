package cyc

import (
	"iter"

	"tammy/api"
	"tammy/term"
	"tammy/uf"
)

// isPlace: is that a place among so many?
func isPlace(at, many int) bool { return 0 <= at && at < many }

// isThere: is there such a variable?
func isThere(g api.Graph, v int) bool { return isPlace(v, len(g.U.V)) }

// edges goes through all steps from a first one to one that is next: its Suc tells of those from it, its Pre of those to it. What is told twice comes twice.
func edges(a api.Keyed, g api.Graph) iter.Seq2[int, int] {
	return func(yield func(from, to int) bool) {
		firsts := firstsOf(a, g)
		for _, v := range uf.Firsts(g.U) {
			for w := range told(g.Suc, v, firsts) {
				if !yield(v, w) {
					return
				}
			}
			for w := range told(g.Pre, v, firsts) {
				if !yield(w, v) {
					return
				}
			}
		}
	}
}

// nobody is no variable.
const nobody = -1

// firstsOf is of each place of the store the first one for its Var; nobody, where there is none. It is made ahead of all rows, since a variable may stand in many of them, and be far from its first one.
func firstsOf(a api.Keyed, g api.Graph) []int {
	out := make([]int, len(a.Keys))
	for at := range out {
		out[at] = nobody
		if t, is := term.Of(a, at); is && t.Kind == api.Var && isThere(g, t.Sym) {
			out[at] = uf.Find(g.U, t.Sym)
		}
	}
	return out
}

// told goes through the first ones, other than v, for the Vars in v's row. (A graph that isn't right may have no such row, or no such place in it.)
func told(rows [][]int, v int, firsts []int) iter.Seq[int] {
	return func(yield func(w int) bool) {
		if !isPlace(v, len(rows)) {
			return
		}
		for _, at := range rows[v] {
			if !isPlace(at, len(firsts)) || firsts[at] == nobody || firsts[at] == v {
				continue
			}
			if !yield(firsts[at]) {
				return
			}
		}
	}
}

// nextOfAll is of each first one who is next to it, perhaps twice, in no order.
func nextOfAll(a api.Keyed, g api.Graph) [][]int {
	out := make([][]int, len(g.U.V))
	for from, to := range edges(a, g) {
		out[from] = append(out[from], to)
	}
	return out
}
