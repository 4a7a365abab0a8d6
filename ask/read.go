package ask

import (
	"slices"

	"tammy/api"
	"tammy/load"
)

// reader reads the terms of a system, by the names of its variables.
type reader struct {
	s     api.System
	names []string
}

func (r reader) text(id int) string { return load.Text(r.s.Sigs, r.s.A, r.names, id) }

func (r reader) clash(p api.Pair) string { return r.text(p[0]) + " <= " + r.text(p[1]) }

// sorted is the text of each of a row, the least first. Those that are the same all stay: terms too great for a text have none, each of them.
func sorted[T any](l []T, tell func(T) string) []string {
	out := make([]string, 0, len(l))
	for _, x := range l {
		out = append(out, tell(x))
	}
	slices.Sort(out)
	return out
}

// variables are those of names, if a question about them can be answered: that one is none is told ahead of clashes.
func variables(s api.System, names []string, asked ...string) ([]int, api.Errno) {
	var out []int
	for _, name := range asked {
		v, e := Find(names, name)
		if e != api.OK || v >= len(s.G.U.V) { // a name for which there is no variable is none, too
			return nil, api.ErrName
		}
		out = append(out, v)
	}
	if len(s.Clash) > 0 {
		return nil, api.ErrClash
	}
	return out, api.OK
}

// mayBeBelow: is an expression of a kind that is told as below variables?
func mayBeBelow(e []api.Node) bool {
	if len(e) == 0 { // as no right nodes are
		return false
	}
	kind := e[len(e)-1].Kind
	return kind == api.Con || kind == api.One
}

// place is where an expression's term stands, if it is there: nothing new is let in. Who asks of a constructor that isn't known asks of nothing that is there.
func place(s api.System, names []string, e []api.Node) (int, bool) {
	_, _, id, why := load.Load(s.Sigs, s.A, names, e, len(s.A.Keys))
	return id, why == api.OK
}
