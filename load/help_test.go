package load_test

import (
	"math/rand"
	"slices"
	"strconv"
	"strings"
	"testing"

	"tammy/api"
	"tammy/expr"
	"tammy/hash"
	"tammy/lex"
	"tammy/load"
	"tammy/term"
)

var (
	zero  = api.Node{Kind: api.Zero}
	one   = api.Node{Kind: api.One}
	union = api.Node{Kind: api.Union, N: 2}
	inter = api.Node{Kind: api.Inter, N: 2}
)

const noLimit = 1 << 40

func variable(name string) api.Node { return api.Node{Kind: api.Var, Name: name} }

func con(name string, n int) api.Node { return api.Node{Kind: api.Con, Name: name, N: n} }

func proj(name string, n int) api.Node { return api.Node{Kind: api.Proj, Name: name, N: n} }

// row is constructors of several arities.
func row() []api.Sig {
	return []api.Sig{
		{Name: "a"},
		{Name: "c", Args: "+"},
		{Name: "d", Args: "+-"},
		{Name: "ref", Args: "++-"},
		{Name: "full", Args: "+-=+-=-+"},
	}
}

// nodes are those of a text that is one expression.
func nodes(t *testing.T, s string) []api.Node {
	t.Helper()
	l, _, e := lex.Toks(s)
	if e != api.OK {
		t.Fatalf("Toks(%.60q): %d", s, e)
	}
	n, end, e := expr.Read(l, 0)
	if e != api.OK || end != len(l) {
		t.Fatalf("Read(%.60q): %d, %d", s, end, e)
	}
	return n
}

// mustLoad loads a text that can be loaded.
func mustLoad(t *testing.T, l []api.Sig, a api.Keyed, names []string, s string) (api.Keyed, []string, int) {
	t.Helper()
	a, names, id, e := load.Load(l, a, names, nodes(t, s), noLimit)
	if e != api.OK {
		t.Fatalf("Load(%.60q): %d", s, e)
	}
	return a, names, id
}

// mustPut puts a term that may be.
func mustPut(t *testing.T, l []api.Sig, a api.Keyed, x api.Term) (api.Keyed, int) {
	t.Helper()
	a, id, e := term.Put(l, a, x, noLimit)
	if e != api.OK {
		t.Fatalf("Put(%v): %d", x, e)
	}
	return a, id
}

// told is a store behind Zero and One, a term a word: V and a number, c and r for Con and Proj with the constructor's place (a Proj's part behind a dot), | and &, all with their parts' places.
func told(t *testing.T, a api.Keyed) string {
	t.Helper()
	var out []string
	for id := 2; id < len(a.Keys); id++ {
		x, _ := term.Of(a, id)
		s := map[int]string{api.Zero: "0", api.One: "1", api.Var: "V", api.Con: "c", api.Union: "|", api.Inter: "&", api.Proj: "r"}[x.Kind]
		if x.Kind == api.Var || x.Kind == api.Con || x.Kind == api.Proj {
			s += strconv.Itoa(x.Sym)
		}
		if x.Kind == api.Proj {
			s += "." + strconv.Itoa(x.Part)
		}
		var parts []string
		for _, p := range x.Args {
			parts = append(parts, strconv.Itoa(p))
		}
		if len(parts) > 0 {
			s += "(" + strings.Join(parts, ",") + ")"
		}
		out = append(out, s)
	}
	return strings.Join(out, " ")
}

// clone is a copy of a store that shares nothing with it.
func clone(a api.Keyed) api.Keyed {
	out := api.Keyed{Slots: slices.Clone(a.Slots)}
	for _, key := range a.Keys {
		out.Keys = append(out.Keys, slices.Clone(key))
	}
	return out
}

// wipe writes into all memory of a store.
func wipe(a api.Keyed) {
	for _, key := range a.Keys[:cap(a.Keys)] {
		clear(key[:cap(key)])
	}
	clear(a.Keys[:cap(a.Keys)])
	clear(a.Slots[:cap(a.Slots)])
}

// tree is an expression.
type tree struct {
	n     api.Node
	parts []tree
}

// partsOf is how many parts a node has.
func partsOf(n api.Node) int {
	return map[int]int{api.Con: n.N, api.Proj: 1, api.Union: 2, api.Inter: 2}[n.Kind]
}

// build makes a tree of a right row of nodes.
func build(l []api.Node) tree {
	var stack []tree
	for _, n := range l {
		many := partsOf(n)
		x := tree{n: n, parts: slices.Clone(stack[len(stack)-many:])}
		stack = append(stack[:len(stack)-many], x)
	}
	return stack[0]
}

// second loads by the document's words, each part by a call of its own, into a plain row of terms: a second reading, held against Load.
type second struct {
	l     []api.Sig
	terms []api.Term
	names []string
	limit int
	e     api.Errno
}

func (s *second) load(x tree) int {
	t := api.Term{Kind: x.n.Kind}
	for _, p := range x.parts {
		t.Args = append(t.Args, s.load(p))
	}
	if s.e != api.OK {
		return 0
	}
	switch x.n.Kind {
	case api.Var:
		if !slices.Contains(s.names, x.n.Name) {
			s.names = append(s.names, x.n.Name)
		}
		t.Sym = slices.Index(s.names, x.n.Name)
	case api.Con, api.Proj:
		t.Sym = slices.IndexFunc(s.l, func(c api.Sig) bool { return c.Name == x.n.Name })
		if t.Sym < 0 || x.n.Kind == api.Con && len(s.l[t.Sym].Args) != x.n.N || x.n.Kind == api.Proj && len(s.l[t.Sym].Args) < x.n.N {
			s.e = api.ErrArg
			return 0
		}
		if x.n.Kind == api.Proj {
			t.Part = x.n.N - 1
		}
	}
	at := slices.IndexFunc(s.terms, func(o api.Term) bool { return term.Same(o, t) })
	if at < 0 {
		if len(s.terms) >= s.limit {
			s.e = api.ErrFull
			return 0
		}
		at, s.terms = len(s.terms), append(s.terms, t)
	}
	return at
}

// secondLoad is what Load must answer.
func secondLoad(l []api.Sig, a api.Keyed, names []string, e []api.Node, limit int) (api.Keyed, []string, int, api.Errno) {
	s := second{l: l, names: slices.Clone(names), limit: limit}
	for id := range a.Keys {
		t, _ := term.Of(a, id)
		s.terms = append(s.terms, t)
	}
	id := s.load(build(e))
	if s.e != api.OK {
		return a, names, 0, s.e
	}
	var keys [][]int
	for _, t := range s.terms {
		keys = append(keys, term.Key(t))
	}
	return api.Keyed{Keys: keys, Slots: hash.Lay(keys)}, s.names, id, api.OK
}

// secondText is the text of a term by the document's words, brackets in brackets, how many nodes it has, and whether all its variables have names.
func secondText(l []api.Sig, a api.Keyed, names []string, id int) (s string, many int, isNamed bool) {
	t, _ := term.Of(a, id)
	sign := map[int]string{api.Union: "|", api.Inter: "&"}[t.Kind]
	var parts []string
	many, isNamed = 1, true
	for i, p := range t.Args {
		s, n, named := secondText(l, a, names, p)
		x, _ := term.Of(a, p)
		if isPair := x.Kind == api.Union || x.Kind == api.Inter; sign != "" && isPair && (i == 1 || x.Kind != t.Kind) {
			s = "(" + s + ")"
		}
		parts, many, isNamed = append(parts, s), many+n, isNamed && named
	}
	switch {
	case t.Kind == api.Zero, t.Kind == api.One:
		return strconv.Itoa(t.Kind), many, isNamed
	case t.Kind == api.Var && t.Sym < len(names):
		return names[t.Sym], many, isNamed
	case t.Kind == api.Var:
		return "", many, false
	case sign != "":
		return strings.Join(parts, sign), many, isNamed
	case t.Kind == api.Proj:
		return l[t.Sym].Name + "~" + strconv.Itoa(t.Part+1) + "(" + parts[0] + ")", many, isNamed
	case len(parts) == 0:
		return l[t.Sym].Name, many, isNamed
	}
	return l[t.Sym].Name + "(" + strings.Join(parts, ",") + ")", many, isNamed
}

// deepest is how many brackets are open at once in a text.
func deepest(s string) int {
	open, most := 0, 0
	for _, c := range s {
		switch c {
		case '(':
			open++
		case ')':
			open--
		}
		most = max(most, open)
	}
	return most
}

// chance is a right row by chance, of at least so many nodes; all its constructors are known, if it is tame.
func chance(r *rand.Rand, many int, tame bool) []api.Node {
	known := row()
	for {
		l, open := []api.Node(nil), 0
		for len(l) < many || open != 1 {
			n := []api.Node{zero, one, variable("X"), variable("Y"), variable("Z_1"), con("a", 0)}[r.Intn(6)]
			s := known[r.Intn(len(known))]
			switch kind := r.Intn(14); {
			case kind < 3:
				n = con(s.Name, len(s.Args))
			case kind < 5 && s.Args != "":
				n = proj(s.Name, 1+r.Intn(len(s.Args)))
			case kind == 5 && !tame && r.Intn(3) == 0:
				n = con([]string{"d", "full", "none"}[r.Intn(3)], r.Intn(9))
			case kind == 6 && !tame && r.Intn(3) == 0:
				n = proj([]string{"d", "a", "ref", "none"}[r.Intn(4)], 1+r.Intn(8))
			case kind < 10:
				n = []api.Node{union, inter}[r.Intn(2)]
			}
			if parts := partsOf(n); parts <= open {
				l, open = append(l, n), open-parts+1
			}
		}
		if expr.Right(l) {
			return l
		}
	}
}
