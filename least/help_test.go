package least_test

import (
	"math/rand"
	"slices"
	"strings"
	"testing"

	"tammy/api"
	"tammy/expr"
	"tammy/ifg"
	"tammy/lex"
	"tammy/load"
	"tammy/solve"
	"tammy/step"
	"tammy/term"
	"tammy/uf"
)

const noLimit = 1 << 40

// row is constructors that vary in each way.
func row() []api.Sig {
	return []api.Sig{{Name: "a"}, {Name: "b"}, {Name: "p", Args: "+"}, {Name: "m", Args: "-"}, {Name: "e", Args: "="}, {Name: "c", Args: "+-"}}
}

// shelf is a system, with the names of its variables.
type shelf struct {
	api.System
	names []string
}

// shelfOf is one of row's constructors, with these terms, each behind those ahead of it.
func shelfOf(t *testing.T, ranks []int, depth int, terms string) *shelf {
	t.Helper()
	s, e := solve.New(row(), ranks, depth)
	if e != api.OK {
		t.Fatalf("New: %d", e)
	}
	out := &shelf{System: s}
	for _, text := range strings.Fields(terms) {
		out.at(t, text)
	}
	return out
}

// at is the place of a text's term, which is laid behind, if it is new.
func (s *shelf) at(t *testing.T, text string) int {
	t.Helper()
	l, _, _ := lex.Toks(text)
	n, end, e := expr.Read(l, 0)
	if e != api.OK || end != len(l) {
		t.Fatalf("Read(%q): %d, %d", text, end, e)
	}
	a, names, id, e := load.Load(s.Sigs, s.A, s.names, n, noLimit)
	if e != api.OK {
		t.Fatalf("Load(%q): %d", text, e)
	}
	s.System, s.names = solve.With(s.System, a), names
	return id
}

// v is the variable of a name.
func (s *shelf) v(name string) int { return slices.Index(s.names, name) }

// put puts the constraints of a text: each two terms with < between, without blanks.
func (s *shelf) put(t *testing.T, text string) {
	t.Helper()
	for _, one := range strings.Fields(text) {
		x, y, _ := strings.Cut(one, "<")
		s.System = solve.Put(s.System, s.at(t, x), s.at(t, y))
	}
}

// run does all steps.
func (s *shelf) run(t *testing.T) {
	t.Helper()
	out, e := solve.Run(s.System, noLimit)
	if e != api.OK || len(out.W.L) > 0 {
		t.Fatalf("Run: %d, %d wait", e, len(out.W.L))
	}
	s.System = out
}

// lay lays what a text tells into the graph, without steps: of each variable its Pre and its Suc (a,X<Y<b), or that it is of another one's class (Y=X).
func (s *shelf) lay(t *testing.T, text string) {
	t.Helper()
	places := func(text string) []int {
		var out []int
		for _, one := range strings.FieldsFunc(text, func(r rune) bool { return r == ',' }) {
			out = append(out, s.at(t, one))
		}
		slices.Sort(out)
		return out
	}
	for _, one := range strings.Fields(text) {
		if x, y, is := strings.Cut(one, "="); is {
			s.G.U = uf.Join(s.G.U, s.G.Ranks, s.v(x), s.v(y))
			continue
		}
		parts := strings.Split(one, "<")
		pre, suc := places(parts[0]), places(parts[2])
		s.G.Pre[s.v(parts[1])], s.G.Suc[s.v(parts[1])] = pre, suc
	}
	if !ifg.Right(s.A, s.G) {
		t.Fatalf("%s isn't right", text)
	}
}

// texts are the terms of places, in order.
func (s *shelf) texts(l []int) string {
	var out []string
	for _, at := range l {
		out = append(out, load.Text(s.Sigs, s.A, s.names, at))
	}
	return strings.Join(out, " ")
}

// those are the names of variables, in order.
func (s *shelf) those(l []int) string {
	var out []string
	for _, v := range l {
		out = append(out, s.names[v])
	}
	return strings.Join(out, " ")
}

// want: are these texts the same?
func want(t *testing.T, what, got, want string) {
	t.Helper()
	if got != want {
		t.Errorf("%s: %q, not %q", what, got, want)
	}
}

// same: are rows the same, element by element?
func same(x, y [][]int) bool { return slices.EqualFunc(x, y, slices.Equal[[]int]) }

// first is a second reading of the first one of a variable.
func first(g api.Graph, v int) int {
	if g.U.V[v] == v {
		return v
	}
	return first(g, g.U.V[v])
}

// secondRow is a second reading of what can be reached from a variable: each place of the store is asked for.
func secondRow(a api.Keyed, g api.Graph, v int) []int {
	var out []int
	for at := range a.Keys {
		if isBelow(a, g, at, v) {
			out = append(out, at)
		}
	}
	return out
}

// isBelow: does a place stand in the Pre of a variable's first one, as a Con or One, or is it below one that does?
func isBelow(a api.Keyed, g api.Graph, at, v int) bool {
	return slices.ContainsFunc(g.Pre[first(g, v)], func(x int) bool {
		switch a.Keys[x][0] {
		case api.Con, api.One:
			return x == at
		}
		return isBelow(a, g, at, a.Keys[x][1])
	})
}

// secondOrder is a second reading of the order: each first one is where as many are ahead of it.
func secondOrder(g api.Graph) []int {
	rank := func(v int) int { return slices.Concat(g.Ranks, make([]int, v+1))[v] }
	isAhead := func(v, w int) bool { return rank(v) < rank(w) || rank(v) == rank(w) && v < w }
	out := []int(nil)
	for v := range g.U.V {
		if first(g, v) == v {
			out = append(out, v)
		}
	}
	sorted := make([]int, len(out))
	for _, v := range out {
		ahead := 0
		for _, w := range out {
			if isAhead(w, v) {
				ahead++
			}
		}
		sorted[ahead] = v
	}
	return sorted
}

// closure is a second reading of the closure: pairs come, each held against all that are there through each variable.
func closure(l []api.Sig, a api.Keyed, all []api.Pair) map[api.Pair]bool {
	out, waits := map[api.Pair]bool{}, slices.Clone(all)
	isVar := func(at int) bool { return a.Keys[at][0] == api.Var }
	for ; len(waits) > 0; waits = waits[1:] {
		p := waits[0]
		if out[p] {
			continue
		}
		out[p] = true
		waits = append(waits, step.Step(l, a, p[0], p[1]).Pairs...)
		for at := range a.Keys {
			if isVar(p[1]) && out[api.Pair{p[1], at}] {
				waits = append(waits, api.Pair{p[0], at})
			}
			if isVar(p[0]) && out[api.Pair{at, p[0]}] {
				waits = append(waits, api.Pair{at, p[1]})
			}
		}
	}
	return out
}

// closed is of each variable all that is a Con, or One, and below it in the closure.
func closed(l []api.Sig, a api.Keyed, all []api.Pair, n int) [][]int {
	out, pairs := make([][]int, n), closure(l, a, all)
	for x, key := range a.Keys {
		for y, to := range a.Keys {
			if (key[0] == api.Con || key[0] == api.One) && to[0] == api.Var && pairs[api.Pair{x, y}] {
				out[to[1]] = append(out[to[1]], x)
			}
		}
	}
	return out
}

// chanceTerms is a store with the variables from, from and 1, up to n, in any order, and so many terms more by chance.
func chanceTerms(t *testing.T, r *rand.Rand, a api.Keyed, from, n, many int) api.Keyed {
	t.Helper()
	l := row()
	put := func(x api.Term, parts int) {
		for range parts {
			x.Args = append(x.Args, r.Intn(len(a.Keys)))
		}
		var e api.Errno
		if a, _, e = term.Put(l, a, x, noLimit); e != api.OK {
			t.Fatalf("Put(%v): %d", x, e)
		}
	}
	for _, v := range r.Perm(n - from) {
		put(api.Term{Kind: api.Var, Sym: from + v}, 0)
	}
	for range many {
		sym := r.Intn(len(l))
		switch parts := l[sym].Args; r.Intn(6) {
		case 0:
			put(api.Term{Kind: []int{api.Union, api.Inter}[r.Intn(2)]}, 2)
		case 1, 2:
			if parts != "" {
				put(api.Term{Kind: api.Proj, Sym: sym, Part: r.Intn(len(parts))}, 1)
			}
		default:
			put(api.Term{Kind: api.Con, Sym: sym}, len(parts))
		}
	}
	return a
}

// chancePairs are so many constraints by chance, each of whose terms is on its side; more of those between variables than of others.
func chancePairs(r *rand.Rand, a api.Keyed, many int) []api.Pair {
	var vars, left, right []int
	for at, key := range a.Keys {
		if key[0] == api.Var {
			vars = append(vars, at)
		}
		if step.Sided(row(), a, at, 'L') {
			left = append(left, at)
		}
		if step.Sided(row(), a, at, 'R') {
			right = append(right, at)
		}
	}
	some := func(l []int) int {
		if len(vars) > 0 && r.Intn(2) == 0 {
			return vars[r.Intn(len(vars))]
		}
		return l[r.Intn(len(l))]
	}
	var out []api.Pair
	for range many {
		out = append(out, api.Pair{some(left), some(right)})
	}
	return out
}

// chanceRanks are ranks by chance, for some of n variables, or more.
func chanceRanks(r *rand.Rand, n int) []int {
	var out []int
	for range r.Intn(n + 3) {
		out = append(out, r.Intn(5)-2)
	}
	return out
}

// chanceGraph is a right graph by chance, of n variables: in each row stands each term that may, one time of few.
func chanceGraph(r *rand.Rand, a api.Keyed, n, few int) api.Graph {
	g := ifg.New(chanceRanks(r, n), n)
	for range r.Intn(n + 1) {
		g.U = uf.Join(g.U, g.Ranks, r.Intn(n), r.Intn(n))
	}
	for v := range n {
		for _, row := range []*[]int{&g.Pre[v], &g.Suc[v]} {
			for at := range a.Keys {
				was := *row
				if r.Intn(few) > 0 {
					continue
				}
				if *row = append(was, at); !ifg.Right(a, g) {
					*row = was
				}
			}
		}
	}
	return g
}

// chanceSystem is a system with such a graph, and a constraint that waits, perhaps.
func chanceSystem(t *testing.T, r *rand.Rand) api.System {
	t.Helper()
	n := 1 + r.Intn(8)
	s, _ := solve.New(row(), nil, r.Intn(3))
	s.A = chanceTerms(t, r, s.A, 0, n, 1+r.Intn(10))
	s.G = chanceGraph(r, s.A, n, 1+r.Intn(4))
	if r.Intn(4) == 0 {
		s = solve.Put(s, r.Intn(len(s.A.Keys)), 1)
	}
	return s
}
