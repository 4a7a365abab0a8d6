package cyc_test

import (
	"math/rand"
	"slices"
	"strings"
	"testing"

	"tammy/api"
	"tammy/expr"
	"tammy/ifg"
	"tammy/lex"
	"tammy/load"
	"tammy/term"
	"tammy/uf"
)

const noLimit = 1 << 40

// shelf is a store, with the names of its variables: A, B and so on (0, 1 and so on).
type shelf struct {
	l     []api.Sig
	a     api.Keyed
	names []string
}

// shelfOf is one with n variables' terms, the last one's first, so that whose number is less stands behind; and with what is none, but has variables in it.
func shelfOf(t *testing.T, n int) *shelf {
	t.Helper()
	s := &shelf{l: []api.Sig{{Name: "a"}, {Name: "p", Args: "+"}}, a: term.New()}
	for v := range n {
		s.names = append(s.names, string(rune('A'+v)))
	}
	s.at(t, "a")
	for v := n - 1; v >= 0; v-- {
		s.at(t, s.names[v])
	}
	for _, text := range []string{"p(A)", "p~1(A)", "p(B)", "p~1(B)"} {
		s.at(t, text)
	}
	return s
}

// at is the place of a text's term, which is laid behind, if it is new.
func (s *shelf) at(t *testing.T, text string) int {
	t.Helper()
	l, _, _ := lex.Toks(text)
	n, end, e := expr.Read(l, 0)
	if e != api.OK || end != len(l) {
		t.Fatalf("Read(%q): %d, %d", text, end, e)
	}
	a, names, id, e := load.Load(s.l, s.a, s.names, n, noLimit)
	if e != api.OK {
		t.Fatalf("Load(%q): %d", text, e)
	}
	s.a, s.names = a, names
	return id
}

// graph is that of all variables, in which, one after the other, as the text tells, one is below another (A<B), or both are one (A=B: what comes of it is dropped).
func (s *shelf) graph(t *testing.T, ranks []int, text string) api.Graph {
	t.Helper()
	return s.on(t, ifg.New(ranks, len(s.names)), text)
}

// on goes on with a graph, likewise.
func (s *shelf) on(t *testing.T, g api.Graph, text string) api.Graph {
	t.Helper()
	for _, what := range strings.Fields(text) {
		if x, y, is := strings.Cut(what, "="); is {
			g, _ = ifg.One(s.a, g, s.v(x), s.v(y))
			continue
		}
		x, y, _ := strings.Cut(what, "<")
		isNew := false
		if g, _, isNew = ifg.Add(s.a, g, api.Pair{s.at(t, x), s.at(t, y)}); !isNew {
			t.Fatalf("%s of %s isn't new", what, text)
		}
	}
	if !ifg.Right(s.a, g) {
		t.Fatalf("%s isn't right", text)
	}
	return g
}

// v is the variable of a name.
func (s *shelf) v(name string) int { return slices.Index(s.names, name) }

// told is the names of variables, as one text.
func (s *shelf) told(l []int) string {
	out := ""
	for _, v := range l {
		out += s.names[v]
	}
	return out
}

// pairs are constraints as a text, as those of a graph.
func (s *shelf) pairs(l []api.Pair) string {
	var out []string
	for _, p := range l {
		out = append(out, load.Text(s.l, s.a, s.names, p[0])+"<"+load.Text(s.l, s.a, s.names, p[1]))
	}
	return strings.Join(out, " ")
}

// varOf is the variable of a place, or -1.
func varOf(a api.Keyed, g api.Graph, at int) int {
	if a.Keys[at][0] != 2 || a.Keys[at][1] >= len(g.U.V) {
		return -1
	}
	return a.Keys[at][1]
}

// first is a second reading of the first one of a variable.
func first(g api.Graph, v int) int {
	if g.U.V[v] == v {
		return v
	}
	return first(g, g.U.V[v])
}

// isNext is a second reading of who is next to whom.
func isNext(a api.Keyed, g api.Graph, w, v int) bool {
	has := func(row []int, whose int) bool {
		return slices.ContainsFunc(row, func(at int) bool { return varOf(a, g, at) >= 0 && first(g, varOf(a, g, at)) == whose })
	}
	return first(g, v) == v && first(g, w) == w && v != w && (has(g.Suc[v], w) || has(g.Pre[w], v))
}

// table is who is next to whom.
func table(a api.Keyed, g api.Graph) func(w, v int) bool {
	n := len(g.U.V)
	all := make([]bool, n*n)
	for v := range n {
		for w := range n {
			all[v*n+w] = isNext(a, g, w, v)
		}
	}
	return func(w, v int) bool { return all[v*n+w] }
}

// far is more steps than there are in any test.
const far = 1 << 30

// steps is how many steps there are, at least, from each variable to each: told by going through each one in turn.
func steps(n int, is func(w, v int) bool) [][]int {
	out := make([][]int, n)
	for v := range n {
		for w := range n {
			switch {
			case v == w:
				out[v] = append(out[v], 0)
			case is(w, v):
				out[v] = append(out[v], 1)
			default:
				out[v] = append(out[v], far)
			}
		}
	}
	for by := range n {
		for v := range n {
			for w := range n {
				out[v][w] = min(out[v][w], out[v][by]+out[by][w])
			}
		}
	}
	return out
}

// secondPath is a second reading of the way between first ones, told from its end on: each time, of those one step less far, the least one to whom that is next.
func secondPath(many [][]int, is func(w, v int) bool, x, y, depth int) []int {
	if x != y && (many[x][y] >= far || many[x][y] > depth) {
		return nil
	}
	out := []int{y}
	for y != x {
		for v := range many {
			if many[x][v] == many[x][y]-1 && is(y, v) {
				y = v
				break
			}
		}
		out = append(out, y)
	}
	slices.Reverse(out)
	return out
}

// equal: are two graphs the same, element by element?
func equal(x, y api.Graph) bool {
	rows := func(x, y [][]int) bool { return slices.EqualFunc(x, y, slices.Equal[[]int]) }
	cells := slices.Equal(x.U.V, y.U.V) && slices.Equal(x.U.Notes, y.U.Notes) && slices.Equal(x.U.Marks, y.U.Marks)
	return cells && slices.Equal(x.Ranks, y.Ranks) && rows(x.Pre, y.Pre) && rows(x.Suc, y.Suc)
}

// cloneRows is a copy that shares nothing.
func cloneRows(rows [][]int) [][]int {
	var out [][]int
	for _, row := range rows {
		out = append(out, slices.Clone(row))
	}
	return out
}

// clone is a copy that shares nothing.
func clone(g api.Graph) api.Graph {
	u := api.Cells{V: slices.Clone(g.U.V), Notes: slices.Clone(g.U.Notes), Marks: slices.Clone(g.U.Marks)}
	return api.Graph{Ranks: slices.Clone(g.Ranks), U: u, Pre: cloneRows(g.Pre), Suc: cloneRows(g.Suc)}
}

// chanceRanks are ranks by chance, for some of n variables, or more.
func chanceRanks(r *rand.Rand, n int) []int {
	var out []int
	for range r.Intn(n + 3) {
		out = append(out, r.Intn(5)-2)
	}
	return out
}

// chanceStore is a store by chance: the terms of n variables, and of two that no graph has, in any order, and others between them.
func chanceStore(t *testing.T, r *rand.Rand, n int) api.Keyed {
	t.Helper()
	l, a := []api.Sig{{Name: "a"}, {Name: "c", Args: "+-"}}, term.New()
	for _, v := range r.Perm(n + 2) {
		put := []api.Term{{Kind: api.Var, Sym: v}}
		for range r.Intn(2) {
			x, y := r.Intn(len(a.Keys)), r.Intn(len(a.Keys))
			more := []api.Term{{Kind: api.Con}, {Kind: api.Con, Sym: 1, Args: []int{x, y}}, {Kind: api.Proj, Sym: 1, Part: 1, Args: []int{x}}, {Kind: api.Union, Args: []int{x, y}}, {Kind: api.Inter, Args: []int{x, y}}}
			put = append(put, more[r.Intn(len(more))])
		}
		for _, x := range put {
			var e api.Errno
			if a, _, e = term.Put(l, a, x, noLimit); e != api.OK {
				t.Fatalf("Put(%v): %d", x, e)
			}
		}
	}
	return a
}

// chanceGraph is a right graph by chance, of n variables: in each row stands each term that may, one time of few.
func chanceGraph(r *rand.Rand, a api.Keyed, n, few int) api.Graph {
	g := ifg.New(chanceRanks(r, n), n)
	for range r.Intn(n + 1) {
		g.U = uf.Join(g.U, g.Ranks, r.Intn(n), r.Intn(n))
	}
	for v := range n {
		for _, row := range []*[]int{&g.Pre[v], &g.Suc[v]} {
			for at := range a.Keys {
				was := *row
				if r.Intn(few) > 0 {
					continue
				}
				if *row = append(was, at); !ifg.Right(a, g) {
					*row = was
				}
			}
		}
	}
	return g
}
