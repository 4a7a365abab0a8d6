package ifg

import (
	"tammy/api"
	"tammy/uf"
)

// Add adds a constraint.
func Add(a api.Keyed, g api.Graph, p api.Pair) (api.Graph, []api.Pair, bool) {
	x, y := Rep(a, g, p[0]), Rep(a, g, p[1])
	v, isX := variable(a, g, x)
	w, isY := variable(a, g, y)
	switch {
	case isX && isY && v == w:
		return copyOf(g), nil, false
	case isX && (!isY || uf.Less(g.Ranks, w, v)):
		return addSuc(a, g, v, y)
	case isY:
		return addPre(a, g, x, w)
	}
	return copyOf(g), nil, false
}

// addSuc lays what is greater into the Suc of v.
func addSuc(a api.Keyed, g api.Graph, v, y int) (api.Graph, []api.Pair, bool) {
	out := copyOf(g)
	if !inSuc(a, g)(v, y) || !lay(&out.Suc[v], y) {
		return out, nil, false
	}
	return out, allBelow(a, g, g.Pre[v], y), true
}

// addPre lays what is less into the Pre of w.
func addPre(a api.Keyed, g api.Graph, x, w int) (api.Graph, []api.Pair, bool) {
	out := copyOf(g)
	if !inPre(a, g)(w, x) || !lay(&out.Pre[w], x) {
		return out, nil, false
	}
	return out, allAbove(a, g, x, g.Suc[w]), true
}

// allBelow is each one for a row's terms below y.
func allBelow(a api.Keyed, g api.Graph, row []int, y int) []api.Pair {
	var out []api.Pair
	for _, x := range row {
		out = append(out, api.Pair{Rep(a, g, x), y})
	}
	return out
}

// allAbove is x below each one for a row's terms.
func allAbove(a api.Keyed, g api.Graph, x int, row []int) []api.Pair {
	var out []api.Pair
	for _, y := range row {
		out = append(out, api.Pair{x, Rep(a, g, y)})
	}
	return out
}

// One makes two variables one.
func One(a api.Keyed, g api.Graph, x, y int) (api.Graph, []api.Pair) {
	out := copyOf(g)
	first, gone := uf.Find(g.U, x), uf.Find(g.U, y)
	if first == gone || !isThere(g, first) || !isThere(g, gone) {
		return out, nil
	}
	if uf.Less(g.Ranks, gone, first) {
		first, gone = gone, first
	}
	out.U = uf.Join(g.U, g.Ranks, x, y)
	out.Pre[gone], out.Suc[gone] = nil, nil
	at := placeOf(a, first)
	come := allBelow(a, out, g.Pre[gone], at)
	return out, append(come, allAbove(a, out, at, g.Suc[gone])...)
}
