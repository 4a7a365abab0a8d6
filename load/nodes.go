package load

import (
	"slices"

	"tammy/api"
	"tammy/expr"
	"tammy/term"
)

// Nodes are a term's nodes.
func Nodes(l []api.Sig, a api.Keyed, names []string, id int) ([]api.Node, api.Errno) {
	below, node := term.Below(a, id), teller(l, names)
	if len(below) == 0 {
		return nil, api.ErrArg
	}
	// All are asked ahead of any row of nodes: that one can't be told is to be said also of what is too great.
	for _, at := range below {
		t, _ := term.Of(a, at)
		if _, isTold := node(t); !isTold {
			return nil, api.ErrArg
		}
	}
	out := unfold(a, below, node)
	if !expr.Right(out) {
		return nil, api.ErrFull
	}
	return out, api.OK
}

// teller tells a term's node, if it has one: a variable without a name has none.
func teller(l []api.Sig, names []string) func(api.Term) (api.Node, bool) {
	return func(t api.Term) (api.Node, bool) {
		n := api.Node{Kind: t.Kind, N: len(t.Args)}
		switch t.Kind {
		case api.Zero, api.One, api.Union, api.Inter:
			return n, true
		case api.Var:
			if t.Sym < 0 || t.Sym >= len(names) {
				return api.Node{}, false
			}
			n.Name = names[t.Sym]
			return n, true
		case api.Con, api.Proj:
			if t.Sym < 0 || t.Sym >= len(l) { // in no store
				return api.Node{}, false
			}
			n.Name = l[t.Sym].Name
			if t.Kind == api.Proj {
				n.N = t.Part + 1
			}
			return n, true
		}
		return api.Node{}, false
	}
}

// unfold is the row of nodes of the last one of a term's places, all told; nothing, if it would be too long.
func unfold(a api.Keyed, below []int, node func(api.Term) (api.Node, bool)) []api.Node {
	// Each place is at least one node. Without that bound, many rows might be made ahead of one that is too long.
	if len(below) > api.MaxNodes {
		return nil
	}
	rows := map[int][]api.Node{}
	var row []api.Node
	for _, at := range below {
		t, _ := term.Of(a, at)
		row = nil
		for _, part := range t.Args {
			row = slices.Concat(row, rows[part])
		}
		n, _ := node(t)
		row = append(row, n)
		if len(row) > api.MaxNodes {
			return nil
		}
		rows[at] = row
	}
	return row
}

// Text is a term's text.
func Text(l []api.Sig, a api.Keyed, names []string, id int) string {
	n, e := Nodes(l, a, names, id)
	if e != api.OK {
		return ""
	}
	return expr.Text(n)
}
