package expr_test

import (
	"math/rand"
	"slices"
	"strconv"
	"strings"
	"testing"

	"tammy/api"
	"tammy/lex"
)

var (
	zero  = api.Node{Kind: api.Zero}
	one   = api.Node{Kind: api.One}
	union = api.Node{Kind: api.Union, N: 2}
	inter = api.Node{Kind: api.Inter, N: 2}
)

func variable(name string) api.Node { return api.Node{Kind: api.Var, Name: name} }

func con(name string, n int) api.Node { return api.Node{Kind: api.Con, Name: name, N: n} }

func proj(name string, n int) api.Node { return api.Node{Kind: api.Proj, Name: name, N: n} }

// tooLong is a name by chapter 6 alone.
const tooLong = "aaaaabbbbbcccccdddddE"

// toks are a text's tokens.
func toks(t *testing.T, s string) []api.Tok {
	t.Helper()
	l, _, e := lex.Toks(s)
	if e != api.OK {
		t.Fatalf("Toks(%.60q): %d", s, e)
	}
	return l
}

// tree is an expression.
type tree struct {
	n     api.Node
	parts []tree
}

// nodes are a tree's, each behind its parts.
func (x tree) nodes() []api.Node {
	var out []api.Node
	for _, p := range x.parts {
		out = append(out, p.nodes()...)
	}
	return append(out, x.n)
}

// sign is what stands between the parts of a Union or an Inter; nothing for others.
func (x tree) sign() string {
	return map[int]string{api.Union: "|", api.Inter: "&"}[x.n.Kind]
}

// text is a tree's text by the document's words, brackets in brackets; more adds brackets, as it likes, where none are needed.
func (x tree) text(more func() bool) string {
	if more() {
		return "(" + x.text(func() bool { return false }) + ")"
	}
	var parts []string
	for i, p := range x.parts {
		s := p.text(more)
		if x.sign() != "" && p.sign() != "" && (i == 1 || p.sign() != x.sign()) {
			s = "(" + s + ")"
		}
		parts = append(parts, s)
	}
	switch x.n.Kind {
	case api.Zero:
		return "0"
	case api.One:
		return "1"
	case api.Var:
		return x.n.Name
	case api.Proj:
		return x.n.Name + "~" + strconv.Itoa(x.n.N) + "(" + parts[0] + ")"
	case api.Con:
		if len(parts) == 0 {
			return x.n.Name
		}
		return x.n.Name + "(" + strings.Join(parts, ",") + ")"
	}
	return strings.Join(parts, x.sign())
}

// plain is a tree's text without brackets that aren't needed.
func (x tree) plain() string { return x.text(func() bool { return false }) }

// deepest is how many brackets are open at once in a text.
func deepest(s string) int {
	open, most := 0, 0
	for _, c := range s {
		switch c {
		case '(':
			open++
		case ')':
			open--
		}
		most = max(most, open)
	}
	return most
}

// chance is a tree by chance, no deeper than so many parts in one another.
func chance(r *rand.Rand, deep int) tree {
	kind := r.Intn(11)
	if deep == 0 {
		kind = r.Intn(4)
	}
	names := []string{"c", "d", "c1_x", "aaaaabbbbbcccccddddd"}
	switch x := (tree{}); kind {
	case 0:
		return tree{n: []api.Node{zero, one}[r.Intn(2)]}
	case 1, 2:
		return tree{n: variable([]string{"X", "Y", "Z_0", "AAAAAbbbbbcccccddddd"}[r.Intn(4)])}
	case 3:
		return tree{n: con(names[r.Intn(4)], 0)}
	case 4, 5:
		x.n = con(names[r.Intn(4)], 1+r.Intn(1+r.Intn(api.MaxArity)))
		for range x.n.N {
			x.parts = append(x.parts, chance(r, deep-1))
		}
		return x
	case 6:
		return tree{n: proj(names[r.Intn(4)], 1+r.Intn(api.MaxArity)), parts: []tree{chance(r, deep-1)}}
	default:
		return tree{n: []api.Node{union, inter}[kind%2], parts: []tree{chance(r, deep-1), chance(r, r.Intn(deep))}}
	}
}

// wrap lays a tree into others, so many times, in each of the ways that open a bracket.
func wrap(r *rand.Rand, x tree, times int) tree {
	for range times {
		switch r.Intn(4) {
		case 0:
			x = tree{n: con("c", 1), parts: []tree{x}}
		case 1:
			x = tree{n: con("c", 3), parts: []tree{{n: zero}, x, {n: variable("X")}}}
		case 2:
			x = tree{n: proj("d", 1+r.Intn(api.MaxArity)), parts: []tree{x}}
		case 3:
			x = tree{n: []api.Node{union, inter}[r.Intn(2)], parts: []tree{{n: one}, x}}
		}
	}
	return x
}

// fault is why a second reading stops, and where.
type fault struct {
	at int
	e  api.Errno
}

// second reads by the document's words, each part by a call of its own: a second reading, held against Read.
type second struct {
	l        []api.Tok
	at, open int
}

func secondRead(l []api.Tok, at int) (out []api.Node, end int, e api.Errno) {
	s := &second{l: l, at: at}
	defer func() {
		if f, is := recover().(fault); is {
			out, end, e = nil, f.at, f.e
		}
	}()
	out = s.expression()
	return out, s.at, api.OK
}

func (s *second) stop(e api.Errno) { panic(fault{s.at, e}) }

// next is the next token's text; nothing behind the last one.
func (s *second) next() string {
	if s.at == len(s.l) {
		return ""
	}
	return s.l[s.at].Text
}

func (s *second) want(sign string) {
	if s.next() != sign {
		s.stop(api.ErrForm)
	}
	if sign == "(" && s.open == api.MaxDepth {
		s.stop(api.ErrFull)
	}
	s.open += map[string]int{"(": 1, ")": -1}[sign]
	s.at++
}

func (s *second) expression() []api.Node {
	out, sign := s.part(), s.next()
	for (sign == "|" || sign == "&") && s.next() == sign {
		s.at++
		out = append(append(out, s.part()...), map[string]api.Node{"|": union, "&": inter}[sign])
	}
	return out
}

func (s *second) part() []api.Node {
	text := s.next()
	switch {
	case text == "(":
		s.want("(")
		out := s.expression()
		s.want(")")
		return out
	case text == "0", text == "1":
		s.at++
		return []api.Node{map[string]api.Node{"0": zero, "1": one}[text]}
	case text == "" || !strings.ContainsAny(text[:1], "abcdefghijklmnopqrstuvwxyzABCDEFGHIJKLMNOPQRSTUVWXYZ"):
		s.stop(api.ErrForm)
	case len(text) > api.MaxName:
		s.stop(api.ErrName)
	}
	s.at++
	if text[0] <= 'Z' {
		return []api.Node{variable(text)}
	}
	switch s.next() {
	case "~":
		return s.projection(text)
	case "(":
		return s.parts(text)
	}
	return []api.Node{con(text, 0)}
}

func (s *second) projection(name string) []api.Node {
	s.want("~")
	n, err := strconv.Atoi(s.next())
	if err != nil {
		s.stop(api.ErrForm)
	}
	if n < 1 || n > 8 {
		s.stop(api.ErrArity)
	}
	s.at++
	s.want("(")
	out := s.expression()
	s.want(")")
	return append(out, proj(name, n))
}

func (s *second) parts(name string) []api.Node {
	s.want("(")
	out, n := s.expression(), 1
	for ; s.next() == ","; n++ {
		if n == 8 {
			s.stop(api.ErrArity)
		}
		s.at++
		out = append(out, s.expression()...)
	}
	s.want(")")
	return append(out, con(name, n))
}

// grammar tells what rows of tokens are, by the document's words alone: without reading from the front, it tries all places at which a row may come apart.
type grammar map[string][]api.Node

// whole are the nodes of a row that is one expression; none, if it is none.
func (g grammar) whole(l []string) []api.Node {
	key := strings.Join(l, " ")
	if out, is := g[key]; is {
		return out
	}
	out := g.part(l)
	if out == nil {
		out = g.joined(l, "|", union)
	}
	if out == nil {
		out = g.joined(l, "&", inter)
	}
	g[key] = out
	return out
}

// joined are the nodes of two parts or more with a sign between each two.
func (g grammar) joined(l []string, sign string, n api.Node) []api.Node {
	for i, s := range l {
		if s != sign {
			continue
		}
		left, right := g.part(l[:i]), g.part(l[i+1:])
		if left == nil {
			left = g.joined(l[:i], sign, n)
		}
		if left != nil && right != nil {
			return slices.Concat(left, right, []api.Node{n})
		}
	}
	return nil
}

func (g grammar) part(l []string) []api.Node {
	if len(l) == 1 {
		return map[string][]api.Node{"0": {zero}, "1": {one}, "X": {variable("X")}, "c": {con("c", 0)}}[l[0]]
	}
	if len(l) < 3 || l[len(l)-1] != ")" {
		return nil
	}
	in := l[:len(l)-1]
	switch {
	case in[0] == "(":
		return g.whole(in[1:])
	case in[0] == "c" && in[1] == "(":
		if out, n := g.list(in[2:]); n > 0 && n <= 8 {
			return append(out, con("c", n))
		}
	case len(in) > 4 && in[0] == "c" && in[1] == "~" && len(in[2]) == 1 && "1" <= in[2] && in[2] <= "8" && in[3] == "(":
		if out := g.whole(in[4:]); out != nil {
			return append(slices.Clone(out), proj("c", int(in[2][0]-'0')))
		}
	}
	return nil
}

// list are the nodes of expressions with commas between, and how many expressions; none, if it is no such list.
func (g grammar) list(l []string) ([]api.Node, int) {
	if out := g.whole(l); out != nil {
		return slices.Clone(out), 1
	}
	for i, s := range l {
		if s != "," {
			continue
		}
		if first := g.whole(l[:i]); first != nil {
			if rest, n := g.list(l[i+1:]); n > 0 {
				return slices.Concat(first, rest), n + 1
			}
		}
	}
	return nil, 0
}

// goesOn: is a row the front of some expression? Whatever stands there, one of four ends makes its last part whole, and brackets end what is open.
func (g grammar) goesOn(l []string) bool {
	for _, end := range [][]string{nil, {"X"}, {"(", "X"}, {"1", "(", "X"}} {
		row := slices.Concat(l, end)
		for range len(l) + 2 {
			if g.whole(row) != nil {
				return true
			}
			row = append(row, ")")
		}
	}
	return false
}
