package step_test

import (
	"math/rand"
	"slices"
	"sort"
	"strconv"
	"strings"
	"testing"

	"tammy/api"
	"tammy/expr"
	"tammy/hash"
	"tammy/lex"
	"tammy/load"
	"tammy/step"
	"tammy/term"
)

const noLimit = 1 << 40

// row is constructors that vary in each way.
func row() []api.Sig {
	return []api.Sig{
		{Name: "a"},
		{Name: "b"},
		{Name: "p", Args: "+"},
		{Name: "m", Args: "-"},
		{Name: "e", Args: "="},
		{Name: "c", Args: "+-"},
		{Name: "t", Args: "-=+"},
		{Name: "full", Args: "+-=+-=-+"},
	}
}

// nodes are those of a text that is one expression.
func nodes(t *testing.T, s string) []api.Node {
	t.Helper()
	l, _, e := lex.Toks(s)
	if e != api.OK {
		t.Fatalf("Toks(%.60q): %d", s, e)
	}
	n, end, e := expr.Read(l, 0)
	if e != api.OK || end != len(l) {
		t.Fatalf("Read(%.60q): %d, %d", s, end, e)
	}
	return n
}

// shelf is a store, with the names of its variables.
type shelf struct {
	l     []api.Sig
	a     api.Keyed
	names []string
}

func newShelf() *shelf { return &shelf{l: row(), a: term.New()} }

// at is the place of a text's term, which is laid behind, if it is new.
func (s *shelf) at(t *testing.T, text string) int {
	t.Helper()
	a, names, id, e := load.Load(s.l, s.a, s.names, nodes(t, text), noLimit)
	if e != api.OK {
		t.Fatalf("Load(%.60q): %d", text, e)
	}
	s.a, s.names = a, names
	return id
}

// pairs are constraints as a text: each two texts with < between.
func (s *shelf) pairs(l []api.Pair) string {
	var out []string
	for _, p := range l {
		out = append(out, load.Text(s.l, s.a, s.names, p[0])+" < "+load.Text(s.l, s.a, s.names, p[1]))
	}
	return strings.Join(out, "; ")
}

// way is what a constraint comes to, as a text.
func (s *shelf) way(w api.Way) string {
	kind := map[int]string{0: "done", 1: "parts", 2: "atom", 3: "clash"}[w.Kind]
	if len(w.Pairs) == 0 {
		return kind
	}
	return strings.TrimPrefix(kind+": "+s.pairs(w.Pairs), "parts: ")
}

// isLess: by the first places, then by the second ones.
func isLess(p, q api.Pair) bool { return p[0] < q[0] || p[0] == q[0] && p[1] < q[1] }

// vary lays, of a part that varies so, its pairs by the document's words.
func vary(how byte, p, q int) []api.Pair {
	return map[byte][]api.Pair{'+': {{p, q}}, '-': {{q, p}}, '=': {{p, q}, {q, p}}}[how]
}

// secondStep is a second reading of the document's table, a row of it each, held against Step.
func secondStep(l []api.Sig, a api.Keyed, x, y int) api.Way {
	p, isP := term.Of(a, x)
	q, isQ := term.Of(a, y)
	parts := func(l ...api.Pair) api.Way { return api.Way{Kind: 1, Pairs: l} }
	isKind := func(t api.Term, kinds ...int) bool { return slices.Contains(kinds, t.Kind) }
	for _, r := range []struct {
		is   bool
		what func() api.Way
	}{
		{!isP || !isQ, func() api.Way { return api.Way{} }},
		{x == y || x == 0 || y == 1, func() api.Way { return api.Way{} }},
		{isKind(p, 4), func() api.Way { return parts(api.Pair{p.Args[0], y}, api.Pair{p.Args[1], y}) }},
		{isKind(q, 5), func() api.Way { return parts(api.Pair{x, q.Args[0]}, api.Pair{x, q.Args[1]}) }},
		{isKind(p, 2) || isKind(q, 2), func() api.Way { return api.Way{Kind: 2} }},
		{isKind(q, 6) && isKind(p, 1), func() api.Way {
			of := q.Args[0]
			return parts(map[byte][]api.Pair{'+': {{1, of}}, '-': {{of, 0}}, '=': {{1, of}, {of, 0}}}[l[q.Sym].Args[q.Part]]...)
		}},
		{isKind(q, 6) && isKind(p, 3) && p.Sym == q.Sym, func() api.Way { return parts(vary(l[q.Sym].Args[q.Part], p.Args[q.Part], q.Args[0])...) }},
		{isKind(q, 6) && isKind(p, 3), func() api.Way { return api.Way{} }},
		{isKind(p, 3) && isKind(q, 3) && p.Sym == q.Sym, func() api.Way {
			var out []api.Pair
			for i := range p.Args {
				out = append(out, vary(l[p.Sym].Args[i], p.Args[i], q.Args[i])...)
			}
			return parts(out...)
		}},
		{isKind(p, 1, 3) && isKind(q, 0, 3), func() api.Way { return api.Way{Kind: 3} }},
	} {
		if r.is {
			return r.what()
		}
	}
	return api.Way{}
}

// secondAll is a second reading, held against All: a row of constraints that grows behind, each looked for in the whole of it.
func secondAll(l []api.Sig, a api.Keyed, x, y int) (atoms, clashes []api.Pair) {
	all := []api.Pair{{x, y}}
	for i := 0; i < len(all); i++ {
		w := secondStep(l, a, all[i][0], all[i][1])
		switch w.Kind {
		case 2:
			atoms = append(atoms, all[i])
		case 3:
			clashes = append(clashes, all[i])
		}
		for _, q := range w.Pairs {
			if !slices.Contains(all, q) {
				all = append(all, q)
			}
		}
	}
	sort.Slice(atoms, func(i, j int) bool { return isLess(atoms[i], atoms[j]) })
	sort.Slice(clashes, func(i, j int) bool { return isLess(clashes[i], clashes[j]) })
	return atoms, clashes
}

// secondSided is a second reading, held against Sided: from the top on, each part by a call of its own.
func secondSided(l []api.Sig, a api.Keyed, id int, side byte) bool {
	t, is := term.Of(a, id)
	if !is || t.Kind == 4 && side != 'L' || (t.Kind == 5 || t.Kind == 6) && side != 'R' {
		return false
	}
	for i, part := range t.Args {
		how := byte('+')
		switch t.Kind {
		case 3:
			how = l[t.Sym].Args[i]
		case 6:
			how = l[t.Sym].Args[t.Part]
		}
		on := side
		switch {
		case how == '=' || side == 'B':
			on = 'B'
		case how == '-':
			on = 'L' + 'R' - side
		}
		if !secondSided(l, a, part, on) {
			return false
		}
	}
	return true
}

// chance is a store by chance, of so many terms behind Zero and One.
func chance(t *testing.T, r *rand.Rand, l []api.Sig, many int) api.Keyed {
	t.Helper()
	a := term.New()
	for len(a.Keys) < many+2 {
		x := api.Term{Kind: api.Var, Sym: r.Intn(4)}
		parts := 0
		switch r.Intn(7) {
		case 0, 1, 2:
			x = api.Term{Kind: api.Con, Sym: r.Intn(len(l))}
			parts = len(l[x.Sym].Args)
		case 3:
			x, parts = api.Term{Kind: []int{api.Union, api.Inter}[r.Intn(2)]}, 2
		case 4:
			sym := r.Intn(len(l))
			if l[sym].Args == "" {
				continue
			}
			x, parts = api.Term{Kind: api.Proj, Sym: sym, Part: r.Intn(len(l[sym].Args))}, 1
		}
		for range parts {
			x.Args = append(x.Args, r.Intn(len(a.Keys)))
		}
		var e api.Errno
		if a, _, e = term.Put(l, a, x, noLimit); e != api.OK {
			t.Fatalf("Put(%v): %d", x, e)
		}
	}
	return a
}

// laid is a store of a row of keys behind those of Zero and One, whatever they are.
func laid(keys ...[]int) api.Keyed {
	keys = append([][]int{{0, 0, 0}, {1, 0, 0}}, keys...)
	return api.Keyed{Keys: keys, Slots: hash.Lay(keys)}
}

// clone is a copy of a store that shares nothing with it.
func clone(a api.Keyed) api.Keyed {
	out := api.Keyed{Slots: slices.Clone(a.Slots)}
	for _, key := range a.Keys {
		out.Keys = append(out.Keys, slices.Clone(key))
	}
	return out
}

// wantStep holds Step, All and Sided at two places against the second readings.
func wantStep(t *testing.T, l []api.Sig, a api.Keyed, x, y int) {
	t.Helper()
	got, want := step.Step(l, a, x, y), secondStep(l, a, x, y)
	if got.Kind != want.Kind || !slices.Equal(got.Pairs, want.Pairs) {
		t.Fatalf("Step(%v, %d, %d): %v, not %v", a.Keys, x, y, got, want)
	}
	atoms, clashes := step.All(l, a, x, y)
	wantAtoms, wantClashes := secondAll(l, a, x, y)
	if !slices.Equal(atoms, wantAtoms) || !slices.Equal(clashes, wantClashes) {
		t.Fatalf("All(%v, %d, %d): %v, %v, not %v, %v", a.Keys, x, y, atoms, clashes, wantAtoms, wantClashes)
	}
}

// number is a word for a variable.
func number(i int) string { return "X" + strconv.Itoa(i) }
