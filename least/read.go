package least

import (
	"slices"

	"tammy/api"
	"tammy/term"
	"tammy/uf"
)

// reader is a system that is read: of each variable its class's first one, which is told once, since it may be far, and the variable may stand in many rows; and of each place whether it is in the row that is being made.
type reader struct {
	api.System
	first []int
	isIn  []bool
}

func readerOf(s api.System) reader {
	r := reader{System: s, first: make([]int, len(s.G.U.V)), isIn: make([]bool, len(s.A.Keys))}
	for v := range r.first {
		r.first[v] = uf.Find(s.G.U, v)
	}
	return r
}

// isPlace: is that a place among so many?
func isPlace(at, many int) bool { return 0 <= at && at < many }

// told is what the Pre of a first one tells: the terms below it, and the first ones for the Vars there. (A graph that isn't right may have no such row, or tell of no variable.)
func (r reader) told(first int) (terms, ahead []int) {
	if !isPlace(first, len(r.G.Pre)) {
		return nil, nil
	}
	for _, at := range r.G.Pre[first] {
		t, _ := term.Of(r.A, at) // of no place: Zero, which tells nothing
		switch t.Kind {
		case api.Con, api.One:
			terms = append(terms, at)
		case api.Var:
			if isPlace(t.Sym, len(r.first)) {
				ahead = append(ahead, r.first[t.Sym])
			}
		}
	}
	return terms, ahead
}

// search is all terms that can be reached from a first one.
func (r reader) search(start int) []int {
	isReached := make([]bool, len(r.first))
	isReached[start] = true
	var rows [][]int
	for waits := []int{start}; len(waits) > 0; {
		v := waits[len(waits)-1]
		waits = waits[:len(waits)-1]
		terms, ahead := r.told(v)
		rows = append(rows, terms)
		for _, w := range ahead {
			if !isReached[w] {
				isReached[w] = true
				waits = append(waits, w)
			}
		}
	}
	return r.union(rows)
}

// union is all places of rows, rising, none twice.
func (r reader) union(rows [][]int) []int {
	var out []int
	for _, row := range rows {
		for _, at := range row {
			if !r.isIn[at] {
				r.isIn[at] = true
				out = append(out, at)
			}
		}
	}
	for _, at := range out {
		r.isIn[at] = false
	}
	slices.Sort(out)
	return out
}
