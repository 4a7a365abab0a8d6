package ifg_test

import (
	"math"
	"math/rand"
	"slices"
	"strings"
	"testing"

	"tammy/api"
	"tammy/expr"
	"tammy/hash"
	"tammy/ifg"
	"tammy/lex"
	"tammy/load"
	"tammy/term"
)

const noLimit = 1 << 40

// row is constructors of which each kind of term can be made.
func row() []api.Sig {
	return []api.Sig{{Name: "a"}, {Name: "b"}, {Name: "p", Args: "+"}, {Name: "c", Args: "+-"}}
}

// shelf is a store, with the names of its variables.
type shelf struct {
	l     []api.Sig
	a     api.Keyed
	names []string
}

// shelfOf is one with the terms of these texts.
func shelfOf(t *testing.T, texts ...string) *shelf {
	t.Helper()
	s := &shelf{l: row(), a: term.New()}
	for _, text := range texts {
		s.at(t, text)
	}
	return s
}

// kinds is a store of three variables, X, Y and Z (0, 1 and 2), of V (3), and of all kinds of terms, some of them between the variables.
func kinds(t *testing.T) *shelf {
	t.Helper()
	return shelfOf(t, "a", "X", "p(X)", "Y", "X|Y", "X&Y", "p~1(X)", "b", "Z", "c(X,Z)", "c~2(Z)", "V", "p(V)")
}

// at is the place of a text's term, which is laid behind, if it is new.
func (s *shelf) at(t *testing.T, text string) int {
	t.Helper()
	l, _, e := lex.Toks(text)
	if e != api.OK {
		t.Fatalf("Toks(%q): %d", text, e)
	}
	n, end, e := expr.Read(l, 0)
	if e != api.OK || end != len(l) {
		t.Fatalf("Read(%q): %d, %d", text, end, e)
	}
	a, names, id, e := load.Load(s.l, s.a, s.names, n, noLimit)
	if e != api.OK {
		t.Fatalf("Load(%q): %d", text, e)
	}
	s.a, s.names = a, names
	return id
}

// pair is a constraint of a text of two terms, with < between.
func (s *shelf) pair(t *testing.T, text string) api.Pair {
	t.Helper()
	x, y, _ := strings.Cut(text, " < ")
	return api.Pair{s.at(t, x), s.at(t, y)}
}

// pairs are constraints as a text: each two texts with < between.
func (s *shelf) pairs(l []api.Pair) string {
	var out []string
	for _, p := range l {
		out = append(out, s.terms(p[:1])+" < "+s.terms(p[1:]))
	}
	return strings.Join(out, "; ")
}

// terms are the texts of terms.
func (s *shelf) terms(places []int) string {
	var out []string
	for _, at := range places {
		out = append(out, load.Text(s.l, s.a, s.names, at))
	}
	return strings.Join(out, " ")
}

// graph is a graph as a text: of each variable about whom something is told its Pre, it, and its Suc; who has another one's class is told with =.
func (s *shelf) graph(g api.Graph) string {
	var out []string
	for v, cell := range g.U.V {
		if cell != v {
			out = append(out, s.names[v]+" = "+s.names[cell])
		}
		if len(g.Pre[v]) > 0 || len(g.Suc[v]) > 0 {
			out = append(out, strings.TrimSpace(s.terms(g.Pre[v])+" < "+s.names[v]+" < "+s.terms(g.Suc[v])))
		}
	}
	return strings.Join(out, "; ")
}

// add is Add of a text, which must be new or not, and come to that text.
func (s *shelf) add(t *testing.T, g api.Graph, text string, isNew bool, come string) api.Graph {
	t.Helper()
	out, l, is := ifg.Add(s.a, g, s.pair(t, text))
	if is != isNew || s.pairs(l) != come {
		t.Errorf("Add of %s to %s: %s, %v, not %s, %v", text, s.graph(g), s.pairs(l), is, come, isNew)
	}
	if !is && !equal(out, g) {
		t.Errorf("Add of %s, which isn't new, to %s: %s", text, s.graph(g), s.graph(out))
	}
	return out
}

// holds: is a graph told by that text?
func (s *shelf) holds(t *testing.T, g api.Graph, want string) {
	t.Helper()
	if got := s.graph(g); got != want {
		t.Errorf("it is %s, not %s", got, want)
	}
}

// someRanks are rows of ranks for up to four variables: none, too short, all the same, rising, falling, mixed, at the ends of the numbers, and too long.
func someRanks() [][]int {
	return [][]int{
		nil, {1}, {-1}, {0, -1}, {7, 7, 7, 7}, {1, 2, 3, 4}, {4, 3, 2, 1}, {2, 0, 1, -3}, {0, 1, 0, -1},
		{math.MaxInt, math.MinInt, math.MaxInt, math.MinInt}, {math.MinInt, math.MaxInt}, {5, 5, 4, 4, -9, -8},
	}
}

// isAhead is a second reading of chapter 5's order.
func isAhead(ranks []int, v, w int) bool {
	ranked := append(slices.Clone(ranks), make([]int, max(v, w)+1)...)
	if ranked[v] == ranked[w] {
		return v < w
	}
	return ranked[v] < ranked[w]
}

// first is a second reading of the first one of a variable.
func first(g api.Graph, v int) int {
	if g.U.V[v] == v {
		return v
	}
	return first(g, g.U.V[v])
}

// varOf is the variable of a place, or -1.
func varOf(a api.Keyed, g api.Graph, at int) int {
	if at < 0 || at >= len(a.Keys) || a.Keys[at][0] != 2 || a.Keys[at][1] >= len(g.U.V) {
		return -1
	}
	return a.Keys[at][1]
}

// placeOf is where the term of a variable stands.
func placeOf(a api.Keyed, v int) int {
	return slices.IndexFunc(a.Keys, func(key []int) bool { return slices.Equal(key, []int{2, v, 0}) })
}

// secondRep is a second reading of the one for a term.
func secondRep(a api.Keyed, g api.Graph, at int) int {
	if v := varOf(a, g, at); v >= 0 {
		return placeOf(a, first(g, v))
	}
	return at
}

// secondMay is a second reading of what may stand in the rows (0: Pre, 1: Suc) of a variable.
func secondMay(a api.Keyed, g api.Graph, which, v, at int) bool {
	if at < 0 || at >= len(a.Keys) {
		return false
	}
	switch a.Keys[at][0] {
	case 0, 6:
		return which == 1
	case 1:
		return which == 0
	case 2:
		return varOf(a, g, at) >= 0 && isAhead(g.Ranks, varOf(a, g, at), v)
	case 3:
		return true
	}
	return false
}

// secondRight is a second reading of what is right, of graphs whose U are cells that can be.
func secondRight(a api.Keyed, g api.Graph) bool {
	if len(g.U.Marks) != 0 || len(g.Pre) != len(g.U.V) || len(g.Suc) != len(g.U.V) {
		return false
	}
	for v, cell := range g.U.V {
		if cell < 0 || cell >= len(g.U.V) || cell != v && !isAhead(g.Ranks, cell, v) {
			return false
		}
		for which, l := range [][]int{g.Pre[v], g.Suc[v]} {
			rises := slices.Clone(l)
			slices.Sort(rises)
			if !slices.Equal(slices.Compact(rises), l) || cell != v && len(l) != 0 {
				return false
			}
			for _, at := range l {
				if !secondMay(a, g, which, v, at) {
					return false
				}
			}
		}
	}
	return true
}

// laid is a graph with one place more in a row (0: Pre, 1: Suc).
func laid(g api.Graph, which, v, at int) api.Graph {
	out := clone(g)
	l := [][][]int{out.Pre, out.Suc}[which]
	l[v] = append(l[v], at)
	slices.Sort(l[v])
	return out
}

// secondAdd is a second reading of Add, held against it.
func secondAdd(a api.Keyed, g api.Graph, p api.Pair) (api.Graph, []api.Pair, bool) {
	x, y := secondRep(a, g, p[0]), secondRep(a, g, p[1])
	v, w := varOf(a, g, x), varOf(a, g, y)
	// Which row: of the one variable that there is, or of the one that is behind.
	of, at, which, from := v, y, 1, g.Pre
	if v < 0 || v >= 0 && w >= 0 && isAhead(g.Ranks, v, w) {
		of, at, which, from = w, x, 0, g.Suc
	}
	if of < 0 || v == w || !secondMay(a, g, which, of, at) || slices.Contains([][][]int{g.Pre, g.Suc}[which][of], at) {
		return g, nil, false
	}
	var come []api.Pair
	for _, other := range from[of] {
		q := api.Pair{secondRep(a, g, other), at}
		if which == 0 {
			q = api.Pair{at, secondRep(a, g, other)}
		}
		come = append(come, q)
	}
	return laid(g, which, of, at), come, true
}

// secondOne is a second reading of One, held against it.
func secondOne(a api.Keyed, g api.Graph, x, y int) (api.Graph, []api.Pair) {
	ahead, behind := first(g, x), first(g, y)
	if ahead == behind {
		return g, nil
	}
	if isAhead(g.Ranks, behind, ahead) {
		ahead, behind = behind, ahead
	}
	out := clone(g)
	out.U.V[behind] = ahead
	out.U.Notes = append(out.U.Notes, api.Note{At: behind, Was: behind})
	out.Pre[behind], out.Suc[behind] = nil, nil
	var come []api.Pair
	for _, at := range g.Pre[behind] {
		come = append(come, api.Pair{secondRep(a, out, at), placeOf(a, ahead)})
	}
	for _, at := range g.Suc[behind] {
		come = append(come, api.Pair{placeOf(a, ahead), secondRep(a, out, at)})
	}
	return out, come
}

// equal: are two the same, element by element?
func equal(x, y api.Graph) bool {
	rows := func(x, y [][]int) bool { return slices.EqualFunc(x, y, slices.Equal[[]int]) }
	cells := slices.Equal(x.U.V, y.U.V) && slices.Equal(x.U.Notes, y.U.Notes) && slices.Equal(x.U.Marks, y.U.Marks)
	return cells && slices.Equal(x.Ranks, y.Ranks) && rows(x.Pre, y.Pre) && rows(x.Suc, y.Suc)
}

// clone is a copy that shares nothing.
func clone(g api.Graph) api.Graph {
	out := api.Graph{Ranks: slices.Clone(g.Ranks), U: api.Cells{V: slices.Clone(g.U.V), Notes: slices.Clone(g.U.Notes), Marks: slices.Clone(g.U.Marks)}}
	for v := range g.Pre {
		out.Pre = append(out.Pre, slices.Clone(g.Pre[v]))
	}
	for v := range g.Suc {
		out.Suc = append(out.Suc, slices.Clone(g.Suc[v]))
	}
	return out
}

// cloneStore is a copy that shares nothing.
func cloneStore(a api.Keyed) api.Keyed {
	out := api.Keyed{Slots: slices.Clone(a.Slots)}
	for _, key := range a.Keys {
		out.Keys = append(out.Keys, slices.Clone(key))
	}
	return out
}

// chanceStore is a store by chance, of at least so many terms, all kinds among them, with a term for each of n variables, and for three more.
func chanceStore(t *testing.T, r *rand.Rand, n, many int) api.Keyed {
	t.Helper()
	l, a := row(), term.New()
	put := func(x api.Term, parts int) {
		for range parts {
			x.Args = append(x.Args, r.Intn(len(a.Keys)))
		}
		var e api.Errno
		if a, _, e = term.Put(l, a, x, noLimit); e != api.OK {
			t.Fatalf("Put(%v): %d", x, e)
		}
	}
	vars := r.Perm(n + 3)
	for len(a.Keys) < many || len(vars) > 0 {
		switch kind := r.Intn(7); kind {
		case api.Var:
			if len(vars) > 0 {
				put(api.Term{Kind: api.Var, Sym: vars[0]}, 0)
				vars = vars[1:]
			}
		case api.Con:
			sym := r.Intn(len(l))
			put(api.Term{Kind: api.Con, Sym: sym}, len(l[sym].Args))
		case api.Union, api.Inter:
			put(api.Term{Kind: kind}, 2)
		case api.Proj:
			put(api.Term{Kind: api.Proj, Sym: 3, Part: r.Intn(2)}, 1)
		}
	}
	return a
}

// chanceGraph is a right graph by chance, of n variables; all that may stand in a row does so one time of few.
func chanceGraph(r *rand.Rand, a api.Keyed, n, few int) api.Graph {
	g := api.Graph{Pre: make([][]int, n), Suc: make([][]int, n)}
	for range r.Intn(n + 3) {
		g.Ranks = append(g.Ranks, r.Intn(5)-2)
	}
	notes := r.Intn(3) > 0 // classes need not tell how they came to be
	for v := range n {
		if g.U.V = append(g.U.V, v); notes {
			g.U.Notes = append(g.U.Notes, api.Note{At: -1})
		}
	}
	for v := range n {
		if w := r.Intn(n); r.Intn(2) == 0 && isAhead(g.Ranks, w, v) {
			if g.U.V[v] = w; notes {
				g.U.Notes = append(g.U.Notes, api.Note{At: v, Was: v})
			}
		}
	}
	for v := range n {
		for at := range a.Keys {
			for which, l := range [][][]int{g.Pre, g.Suc} {
				if g.U.V[v] == v && r.Intn(few) == 0 && secondMay(a, g, which, v, at) {
					l[v] = append(l[v], at)
				}
			}
		}
	}
	return g
}

// laidStore is a store of a row of keys behind those of Zero and One, whatever they are.
func laidStore(keys ...[]int) api.Keyed {
	keys = append([][]int{{0, 0, 0}, {1, 0, 0}}, keys...)
	return api.Keyed{Keys: keys, Slots: hash.Lay(keys)}
}
