package ask_test

import (
	"math/rand"
	"slices"
	"strconv"
	"strings"
	"testing"

	"tammy/api"
	"tammy/ask"
	"tammy/expr"
	"tammy/lex"
	"tammy/load"
	"tammy/solve"
	"tammy/step"
	"tammy/term"
)

const noLimit = 1 << 40

// row is constructors that vary in each way.
func row() []api.Sig {
	return []api.Sig{{Name: "a"}, {Name: "b"}, {Name: "p", Args: "+"}, {Name: "m", Args: "-"}, {Name: "e", Args: "="}, {Name: "c", Args: "+-"}}
}

// shelf is a system, with the names of its variables.
type shelf struct {
	api.System
	names []string
}

// shelfOf is one of row's constructors, with these terms, each behind those ahead of it.
func shelfOf(t *testing.T, ranks []int, depth int, terms string) *shelf {
	t.Helper()
	s, e := solve.New(row(), ranks, depth)
	if e != api.OK {
		t.Fatalf("New: %d", e)
	}
	out := &shelf{System: s}
	for _, text := range strings.Fields(terms) {
		out.at(t, text)
	}
	return out
}

// solved is one in which nothing waits, of these constraints, each two terms with < between, without blanks.
func solved(t *testing.T, ranks []int, depth int, terms, constraints string) *shelf {
	t.Helper()
	s := shelfOf(t, ranks, depth, terms)
	for _, one := range strings.Fields(constraints) {
		x, y, _ := strings.Cut(one, "<")
		s.System = solve.Put(s.System, s.at(t, x), s.at(t, y))
	}
	s.run(t)
	return s
}

// at is the place of a text's term, which is laid behind, if it is new.
func (s *shelf) at(t *testing.T, text string) int {
	t.Helper()
	a, names, id, e := load.Load(s.Sigs, s.A, s.names, nodes(t, text), noLimit)
	if e != api.OK {
		t.Fatalf("Load(%q): %d", text, e)
	}
	s.System, s.names = solve.With(s.System, a), names
	return id
}

// run does all steps.
func (s *shelf) run(t *testing.T) {
	t.Helper()
	out, e := solve.Run(s.System, noLimit)
	if e != api.OK || len(out.W.L) > 0 {
		t.Fatalf("Run: %d, %d wait", e, len(out.W.L))
	}
	s.System = out
}

// nodes are those of a text that is one expression.
func nodes(t *testing.T, text string) []api.Node {
	t.Helper()
	l, _, _ := lex.Toks(text)
	n, end, e := expr.Read(l, 0)
	if e != api.OK || end != len(l) {
		t.Fatalf("Read(%q): %d, %d", text, end, e)
	}
	return n
}

// wantAsk: does Ask answer these texts (with semicolons between), and that error?
func (s *shelf) wantAsk(t *testing.T, name, texts string, why api.Errno) {
	t.Helper()
	got, e := ask.Ask(s.System, s.names, name)
	if strings.Join(got, ";") != texts || e != why {
		t.Errorf("Ask(%q): %q, %d, not %q, %d", name, got, e, texts, why)
	}
}

// wantClashes: does Clashes answer these texts?
func (s *shelf) wantClashes(t *testing.T, texts string) {
	t.Helper()
	if got := ask.Clashes(s.System, s.names); strings.Join(got, ";") != texts {
		t.Errorf("Clashes: %q, not %q", got, texts)
	}
}

// wantAlias: does Alias answer that, either way round?
func (s *shelf) wantAlias(t *testing.T, x, y string, yes bool, why api.Errno) {
	t.Helper()
	for _, two := range [][2]string{{x, y}, {y, x}} {
		if got, e := ask.Alias(s.System, s.names, two[0], two[1]); got != yes || e != why {
			t.Errorf("Alias of %q: %t, %d, not %t, %d", two, got, e, yes, why)
		}
	}
}

// wantIn: does In answer that?
func (s *shelf) wantIn(t *testing.T, text, name string, yes bool, why api.Errno) {
	t.Helper()
	if got, e := ask.In(s.System, s.names, nodes(t, text), name); got != yes || e != why {
		t.Errorf("In(%q, %q): %t, %d, not %t, %d", text, name, got, e, yes, why)
	}
}

// secondText is the text of a term by the document's words, brackets in brackets: a second reading.
func secondText(a api.Keyed, names []string, at int) string {
	key := a.Keys[at]
	sign := map[int]string{api.Union: "|", api.Inter: "&"}[key[0]]
	var parts []string
	for i, part := range key[3:] {
		s, kind := secondText(a, names, part), a.Keys[part][0]
		if isPair := kind == api.Union || kind == api.Inter; sign != "" && isPair && (i == 1 || kind != key[0]) {
			s = "(" + s + ")"
		}
		parts = append(parts, s)
	}
	switch key[0] {
	case api.Zero, api.One:
		return strconv.Itoa(key[0])
	case api.Var:
		return names[key[1]]
	case api.Union, api.Inter:
		return strings.Join(parts, sign)
	case api.Proj:
		return row()[key[1]].Name + "~" + strconv.Itoa(key[2]+1) + "(" + parts[0] + ")"
	}
	if len(parts) == 0 {
		return row()[key[1]].Name
	}
	return row()[key[1]].Name + "(" + strings.Join(parts, ",") + ")"
}

// closure is a second reading of the closure: pairs come, each held against all that are there through each variable.
func closure(l []api.Sig, a api.Keyed, all []api.Pair) map[api.Pair]bool {
	out, waits := map[api.Pair]bool{}, slices.Clone(all)
	isVar := func(at int) bool { return a.Keys[at][0] == api.Var }
	for ; len(waits) > 0; waits = waits[1:] {
		p := waits[0]
		if out[p] {
			continue
		}
		out[p] = true
		waits = append(waits, step.Step(l, a, p[0], p[1]).Pairs...)
		for at := range a.Keys {
			if isVar(p[1]) && out[api.Pair{p[1], at}] {
				waits = append(waits, api.Pair{p[0], at})
			}
			if isVar(p[0]) && out[api.Pair{at, p[0]}] {
				waits = append(waits, api.Pair{at, p[1]})
			}
		}
	}
	return out
}

// answers is what a closure tells, by the document's words: all clashes, as texts, and of each variable the places below it, in any order.
type answers struct {
	clashes []string
	below   [][]int
}

// second tells it, of constraints by these names.
func second(a api.Keyed, names []string, all []api.Pair) answers {
	out := answers{below: make([][]int, len(names))}
	for p := range closure(row(), a, all) {
		if step.Step(row(), a, p[0], p[1]).Kind == api.WClash {
			out.clashes = append(out.clashes, secondText(a, names, p[0])+" <= "+secondText(a, names, p[1]))
		}
		x, y := a.Keys[p[0]], a.Keys[p[1]]
		if (x[0] == api.Con || x[0] == api.One) && y[0] == api.Var {
			out.below[y[1]] = append(out.below[y[1]], p[0])
		}
	}
	slices.Sort(out.clashes)
	return out
}

// texts are those of what is below a variable, sorted.
func (x answers) texts(a api.Keyed, names []string, v int) []string {
	var out []string
	for _, at := range x.below[v] {
		out = append(out, secondText(a, names, at))
	}
	slices.Sort(out)
	return out
}

// share: is there a place that is below both?
func (x answers) share(v, w int) bool {
	return slices.ContainsFunc(x.below[v], func(at int) bool { return slices.Contains(x.below[w], at) })
}

// chanceTerms is a store with n variables, in any order, and so many terms more by chance.
func chanceTerms(t *testing.T, r *rand.Rand, n, many int) api.Keyed {
	t.Helper()
	l, a := row(), term.New()
	put := func(x api.Term, parts int) {
		for range parts {
			x.Args = append(x.Args, r.Intn(len(a.Keys)))
		}
		var e api.Errno
		if a, _, e = term.Put(l, a, x, noLimit); e != api.OK {
			t.Fatalf("Put(%v): %d", x, e)
		}
	}
	for _, v := range r.Perm(n) {
		put(api.Term{Kind: api.Var, Sym: v}, 0)
	}
	for range many {
		sym := r.Intn(len(l))
		switch parts := l[sym].Args; r.Intn(6) {
		case 0:
			put(api.Term{Kind: []int{api.Union, api.Inter}[r.Intn(2)]}, 2)
		case 1, 2:
			if parts != "" {
				put(api.Term{Kind: api.Proj, Sym: sym, Part: r.Intn(len(parts))}, 1)
			}
		default:
			put(api.Term{Kind: api.Con, Sym: sym}, len(parts))
		}
	}
	return a
}

// chancePairs are so many constraints by chance, each of whose terms is on its side; more of those between variables than of others.
func chancePairs(r *rand.Rand, a api.Keyed, many int) []api.Pair {
	var vars, left, right []int
	for at, key := range a.Keys {
		if key[0] == api.Var {
			vars = append(vars, at)
		}
		if step.Sided(row(), a, at, 'L') {
			left = append(left, at)
		}
		if step.Sided(row(), a, at, 'R') {
			right = append(right, at)
		}
	}
	some := func(l []int) int {
		if len(vars) > 0 && r.Intn(2) == 0 {
			return vars[r.Intn(len(vars))]
		}
		return l[r.Intn(len(l))]
	}
	var out []api.Pair
	for range many {
		out = append(out, api.Pair{some(left), some(right)})
	}
	return out
}

// chanceShelf is a system by chance, solved by any ranks and depth, and the constraints that were put.
func chanceShelf(t *testing.T, r *rand.Rand) (*shelf, []api.Pair) {
	t.Helper()
	all := []string{"X", "B_2", "Ab", "Z", "A", "Y9", "Aa"} // which rise neither as they stand, nor by their lengths
	n := r.Intn(len(all) + 1)
	ranks := make([]int, r.Intn(n+3))
	for i := range ranks {
		ranks[i] = r.Intn(5) - 2
	}
	s, e := solve.New(row(), ranks, []int{0, 1, 2, 50}[r.Intn(4)])
	if e != api.OK {
		t.Fatalf("New: %d", e)
	}
	out := &shelf{System: solve.With(s, chanceTerms(t, r, n, 1+r.Intn(10))), names: all[:n]}
	pairs := chancePairs(r, out.A, r.Intn(14))
	for _, p := range pairs {
		out.System = solve.Put(out.System, p[0], p[1])
	}
	out.run(t)
	return out, pairs
}
