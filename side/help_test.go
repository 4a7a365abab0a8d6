package side_test

import (
	"math/rand"
	"strings"
	"testing"

	"tammy/api"
	"tammy/expr"
	"tammy/lex"
)

var (
	zero  = api.Node{Kind: api.Zero}
	one   = api.Node{Kind: api.One}
	union = api.Node{Kind: api.Union, N: 2}
	inter = api.Node{Kind: api.Inter, N: 2}
)

func variable(name string) api.Node { return api.Node{Kind: api.Var, Name: name} }

func con(name string, n int) api.Node { return api.Node{Kind: api.Con, Name: name, N: n} }

func proj(name string, n int) api.Node { return api.Node{Kind: api.Proj, Name: name, N: n} }

// row is constructors that vary in each way.
func row() []api.Sig {
	return []api.Sig{
		{Name: "a"},
		{Name: "p", Args: "+"},
		{Name: "m", Args: "-"},
		{Name: "e", Args: "="},
		{Name: "c", Args: "+-"},
		{Name: "ref", Args: "++-"},
		{Name: "t", Args: "-=+"},
		{Name: "full", Args: "+-=+-=-+"},
	}
}

// nodes are those of a text that is one expression.
func nodes(t *testing.T, s string) []api.Node {
	t.Helper()
	l, _, e := lex.Toks(s)
	if e != api.OK {
		t.Fatalf("Toks(%.60q): %d", s, e)
	}
	n, end, e := expr.Read(l, 0)
	if e != api.OK || end != len(l) {
		t.Fatalf("Read(%.60q): %d, %d", s, end, e)
	}
	return n
}

// tree is an expression: a node, its place, and its parts.
type tree struct {
	n     api.Node
	at    int
	parts []tree
}

// build makes a tree of a right row of nodes.
func build(l []api.Node) tree {
	var stack []tree
	for at, n := range l {
		many := map[int]int{api.Con: n.N, api.Proj: 1, api.Union: 2, api.Inter: 2}[n.Kind]
		x := tree{n: n, at: at, parts: append([]tree(nil), stack[len(stack)-many:]...)}
		stack = append(stack[:len(stack)-many], x)
	}
	return stack[0]
}

// find is the constructor of a name.
func find(l []api.Sig, name string) (api.Sig, bool) {
	for _, s := range l {
		if s.Name == name {
			return s, true
		}
	}
	return api.Sig{}, false
}

// isKnown: by the document's words, of a Con or a Proj.
func isKnown(l []api.Sig, n api.Node) bool {
	s, is := find(l, n.Name)
	return is && (n.Kind == api.Con && len(s.Args) == n.N || n.Kind == api.Proj && len(s.Args) >= n.N)
}

// ways lays, of each node, how it varies in each of those it is a part of, the outermost first: a part of one that isn't known, as one that doesn't vary.
func (x tree) ways(l []api.Sig, way string, out []string) {
	out[x.at] = way
	for i, p := range x.parts {
		how := "+"
		if x.n.Kind == api.Con || x.n.Kind == api.Proj {
			how = "="
			if s, _ := find(l, x.n.Name); isKnown(l, x.n) && x.n.Kind == api.Con {
				how = s.Args[i : i+1]
			} else if isKnown(l, x.n) {
				how = s.Args[x.n.N-1 : x.n.N]
			}
		}
		p.ways(l, way+how, out)
	}
}

// sides are those of a right row's nodes, by the whole way from the last one to each: a second reading, held against Of.
func sides(l []api.Sig, e []api.Node, side byte) string {
	ways := make([]string, len(e))
	build(e).ways(l, "", ways)
	var out []byte
	for _, way := range ways {
		switch turned := strings.Count(way, "-")%2 == 1; {
		case side != 'L' && side != 'R' || strings.Contains(way, "="):
			out = append(out, 'B')
		case turned == (side == 'L'):
			out = append(out, 'R')
		default:
			out = append(out, 'L')
		}
	}
	return string(out)
}

// check is a second reading, held against Check.
func check(l []api.Sig, e []api.Node, side byte) (int, api.Errno) {
	on := sides(l, e, side)
	for at, n := range e {
		_, is := find(l, n.Name)
		isNamed := n.Kind == api.Con || n.Kind == api.Proj
		if isNamed && !is {
			return at, api.ErrName
		}
		if isNamed && !isKnown(l, n) {
			return at, api.ErrArity
		}
		if n.Kind == api.Union && on[at] != 'L' || (n.Kind == api.Inter || n.Kind == api.Proj) && on[at] != 'R' {
			return at, api.ErrSide
		}
	}
	return 0, api.OK
}

// chance is a right row by chance, of at least so many nodes; such as may stand somewhere more often than not, if it is tame.
func chance(r *rand.Rand, many int, tame bool) []api.Node {
	known := row()
	for {
		l, open := []api.Node(nil), 0
		for len(l) < many || open != 1 {
			n := []api.Node{zero, one, variable("X"), variable("Y"), variable("Z_1"), con("a", 0)}[r.Intn(6)]
			s := known[r.Intn(len(known))]
			switch kind := r.Intn(12); {
			case tame && kind < 6, kind < 3:
				n = con(s.Name, len(s.Args))
			case tame && kind < 7, kind == 3:
				n = proj(s.Name, 1+r.Intn(max(1, len(s.Args))))
			case kind == 4:
				n = con([]string{"c", "t", "none"}[r.Intn(3)], r.Intn(9))
			case kind == 5:
				n = proj([]string{"p", "a", "t", "none"}[r.Intn(4)], 1+r.Intn(8))
			case kind < 9:
				n = []api.Node{union, inter}[r.Intn(2)]
			}
			parts := map[int]int{api.Con: n.N, api.Proj: 1, api.Union: 2, api.Inter: 2}[n.Kind]
			if parts <= open {
				l, open = append(l, n), open-parts+1
			}
		}
		if expr.Right(l) {
			return l
		}
	}
}
