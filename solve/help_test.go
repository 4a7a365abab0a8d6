package solve_test

import (
	"fmt"
	"math/rand"
	"reflect"
	"slices"
	"strings"
	"testing"

	"tammy/api"
	"tammy/cyc"
	"tammy/expr"
	"tammy/ifg"
	"tammy/lex"
	"tammy/load"
	"tammy/solve"
	"tammy/step"
	"tammy/term"
	"tammy/work"
)

const noLimit = 1 << 40

// row is constructors that vary in each way.
func row() []api.Sig {
	return []api.Sig{{Name: "a"}, {Name: "b"}, {Name: "p", Args: "+"}, {Name: "m", Args: "-"}, {Name: "e", Args: "="}, {Name: "c", Args: "+-"}}
}

// shelf is a system, with the names of its variables.
type shelf struct {
	api.System
	names []string
}

// shelfOf is one of row's constructors, with these terms, each behind those ahead of it.
func shelfOf(t *testing.T, ranks []int, depth int, terms string) *shelf {
	t.Helper()
	s, e := solve.New(row(), ranks, depth)
	if e != api.OK {
		t.Fatalf("New: %d", e)
	}
	out := &shelf{System: s}
	for _, text := range strings.Fields(terms) {
		out.at(t, text)
	}
	return out
}

// at is the place of a text's term, which is laid behind, if it is new.
func (s *shelf) at(t *testing.T, text string) int {
	t.Helper()
	l, _, _ := lex.Toks(text)
	n, end, e := expr.Read(l, 0)
	if e != api.OK || end != len(l) {
		t.Fatalf("Read(%q): %d, %d", text, end, e)
	}
	a, names, id, e := load.Load(s.Sigs, s.A, s.names, n, noLimit)
	if e != api.OK {
		t.Fatalf("Load(%q): %d", text, e)
	}
	s.System, s.names = solve.With(s.System, a), names
	return id
}

// put puts the constraints of a text: each two terms with < between, without blanks.
func (s *shelf) put(t *testing.T, text string) {
	t.Helper()
	for _, one := range strings.Fields(text) {
		x, y, _ := strings.Cut(one, "<")
		left, right := s.at(t, x), s.at(t, y)
		if !step.Sided(s.Sigs, s.A, left, 'L') || !step.Sided(s.Sigs, s.A, right, 'R') {
			t.Fatalf("%s isn't sided", one)
		}
		s.System = solve.Put(s.System, left, right)
	}
}

// once does a step, which there must be.
func (s *shelf) once(t *testing.T) {
	t.Helper()
	out, did := solve.Once(s.System)
	if !did || out.Steps != s.Steps+1 {
		t.Fatalf("no step: %v, %d behind %d", did, out.Steps, s.Steps)
	}
	s.System = out
}

// run does all steps.
func (s *shelf) run(t *testing.T) {
	t.Helper()
	out, e := solve.Run(s.System, noLimit)
	if e != api.OK || len(out.W.L) > 0 {
		t.Fatalf("Run: %d, %d wait", e, len(out.W.L))
	}
	s.System = out
}

// term is the text of a place's term.
func (s *shelf) term(at int) string { return load.Text(s.Sigs, s.A, s.names, at) }

// pairs are constraints as a text, in order.
func (s *shelf) pairs(l []api.Pair) string {
	var out []string
	for _, p := range l {
		out = append(out, s.term(p[0])+"<"+s.term(p[1]))
	}
	return strings.Join(out, " ")
}

// seen are all constraints that ever waited, in the order in which they were put.
func (s *shelf) seen() string {
	var out []api.Pair
	for _, key := range s.W.Seen.Keys {
		out = append(out, api.Pair(key))
	}
	return s.pairs(out)
}

// waits are those that wait, as the heap has them.
func (s *shelf) waits() string { return s.pairs(s.W.L) }

// graph is what the graph tells, as a text: of each variable its Pre, it, and its Suc; who has another one's class is told with =.
func (s *shelf) graph() string {
	var out []string
	terms := func(l []int) string {
		var texts []string
		for _, at := range l {
			texts = append(texts, s.term(at))
		}
		return strings.Join(texts, ",")
	}
	for v, cell := range s.G.U.V {
		switch {
		case cell != v:
			out = append(out, s.names[v]+"="+s.names[cell])
		case len(s.G.Pre[v])+len(s.G.Suc[v]) > 0:
			out = append(out, terms(s.G.Pre[v])+"<"+s.names[v]+"<"+terms(s.G.Suc[v]))
		}
	}
	return strings.Join(out, " ")
}

// want: are these texts the same?
func want(t *testing.T, what, got, want string) {
	t.Helper()
	if got != want {
		t.Errorf("%s: %q, not %q", what, got, want)
	}
}

// told is all of a system, element by element.
func told(s api.System) string {
	return fmt.Sprintf("%q %v", s.Sigs, []any{s.A, s.G, s.W, s.Clash, s.Steps, s.Depth})
}

// secondOnce is a second reading of a step: by the document's words one after the other, each pair put by a call of its own.
func secondOnce(s api.System) (api.System, bool) {
	rest, p, is := work.Next(s.W)
	if !is {
		return s, false
	}
	s.W, s.Steps = rest, s.Steps+1
	put := func(l []api.Pair) {
		for _, q := range l {
			s.W, _ = work.Put(s.W, q)
		}
	}
	switch way := step.Step(s.Sigs, s.A, p[0], p[1]); way.Kind {
	case api.WParts:
		put(way.Pairs)
	case api.WClash:
		l := append(slices.Clone(s.Clash), p)
		slices.SortFunc(l, func(p, q api.Pair) int { return slices.Compare(p[:], q[:]) })
		s.Clash = l
	case api.WAtom:
		x, y := s.A.Keys[ifg.Rep(s.A, s.G, p[0])], s.A.Keys[ifg.Rep(s.A, s.G, p[1])]
		g, come, isNew := ifg.Add(s.A, s.G, p)
		s.G = g
		put(come)
		if isNew && x[0] == api.Var && y[0] == api.Var && s.Depth != 0 {
			if way := cyc.Path(s.A, s.G, y[1], x[1], s.Depth); len(way) > 0 {
				s.G, come = cyc.Join(s.A, s.G, way)
				put(come)
			}
		}
	}
	return s, true
}

// pairSet is pairs, each once.
type pairSet map[api.Pair]bool

// secondStep is a second reading of chapter 10's table: whether a constraint between right terms is a clash, and of which others it is made.
func secondStep(l []api.Sig, a api.Keyed, x, y int) (bool, []api.Pair) {
	p, q := a.Keys[x], a.Keys[y]
	by := func(how byte, x, y int) []api.Pair {
		return map[byte][]api.Pair{'+': {{x, y}}, '-': {{y, x}}, '=': {{x, y}, {y, x}}}[how]
	}
	switch {
	case x == y || x == 0 || y == 1:
		return false, nil
	case p[0] == api.Union:
		return false, []api.Pair{{p[3], y}, {p[4], y}}
	case q[0] == api.Inter:
		return false, []api.Pair{{x, q[3]}, {x, q[4]}}
	case p[0] == api.Var || q[0] == api.Var:
		return false, nil
	case q[0] == api.Proj && p[0] == api.One:
		all := map[byte][]api.Pair{'+': {{1, q[3]}}, '-': {{q[3], 0}}, '=': {{1, q[3]}, {q[3], 0}}}
		return false, all[l[q[1]].Args[q[2]]]
	case q[0] == api.Proj && p[0] == api.Con && p[1] == q[1]:
		return false, by(l[q[1]].Args[q[2]], p[3+q[2]], q[3])
	case p[0] == api.Con && q[0] == api.Con && p[1] == q[1]:
		var out []api.Pair
		for i, how := range []byte(l[p[1]].Args) {
			out = append(out, by(how, p[3+i], q[3+i])...)
		}
		return false, out
	}
	return (p[0] == api.One || p[0] == api.Con) && (q[0] == api.Zero || q[0] == api.Con), nil
}

// closure is a second reading of the closure, and of its clashes, which rise: pairs come, each held against all that are there through each variable.
func closure(l []api.Sig, a api.Keyed, all []api.Pair) (pairSet, []api.Pair) {
	out, waits := pairSet{}, slices.Clone(all)
	var clashes []api.Pair
	isVar := func(at int) bool { return a.Keys[at][0] == api.Var }
	for ; len(waits) > 0; waits = waits[1:] {
		p := waits[0]
		if out[p] {
			continue
		}
		out[p] = true
		isClash, parts := secondStep(l, a, p[0], p[1])
		if isClash {
			clashes = append(clashes, p)
		}
		waits = append(waits, parts...)
		for at := range a.Keys {
			if isVar(p[1]) && out[api.Pair{p[1], at}] {
				waits = append(waits, api.Pair{p[0], at})
			}
			if isVar(p[0]) && out[api.Pair{at, p[0]}] {
				waits = append(waits, api.Pair{at, p[1]})
			}
		}
	}
	slices.SortFunc(clashes, func(p, q api.Pair) int { return slices.Compare(p[:], q[:]) })
	return out, clashes
}

// chanceTerms is a store with n variables, in any order, and so many terms more by chance.
func chanceTerms(t *testing.T, r *rand.Rand, l []api.Sig, a api.Keyed, n, many int) api.Keyed {
	t.Helper()
	put := func(x api.Term, parts int) {
		for range parts {
			x.Args = append(x.Args, r.Intn(len(a.Keys)))
		}
		var e api.Errno
		if a, _, e = term.Put(l, a, x, noLimit); e != api.OK {
			t.Fatalf("Put(%v): %d", x, e)
		}
	}
	for _, v := range r.Perm(n) {
		put(api.Term{Kind: api.Var, Sym: v}, 0)
	}
	for range many {
		sym := r.Intn(len(l))
		switch parts := l[sym].Args; r.Intn(6) {
		case 0:
			put(api.Term{Kind: []int{api.Union, api.Inter}[r.Intn(2)]}, 2)
		case 1, 2:
			if parts != "" {
				put(api.Term{Kind: api.Proj, Sym: sym, Part: r.Intn(len(parts))}, 1)
			}
		default:
			put(api.Term{Kind: api.Con, Sym: sym}, len(parts))
		}
	}
	return a
}

// chancePairs are so many constraints by chance, each of whose terms is on its side; more of those between variables than of others.
func chancePairs(r *rand.Rand, l []api.Sig, a api.Keyed, many int) []api.Pair {
	var vars, left, right []int
	for at, key := range a.Keys {
		if key[0] == api.Var {
			vars = append(vars, at)
		}
		if step.Sided(l, a, at, 'L') {
			left = append(left, at)
		}
		if step.Sided(l, a, at, 'R') {
			right = append(right, at)
		}
	}
	some := func(l []int) int {
		if len(vars) > 0 && r.Intn(2) == 0 {
			return vars[r.Intn(len(vars))]
		}
		return l[r.Intn(len(l))]
	}
	var out []api.Pair
	for range many {
		out = append(out, api.Pair{some(left), some(right)})
	}
	return out
}

// chanceRanks are ranks by chance, for some of n variables, or more.
func chanceRanks(r *rand.Rand, n int) []int {
	var out []int
	for range r.Intn(n + 3) {
		out = append(out, r.Intn(5)-2)
	}
	return out
}

// right: are all parts of a system right, by their own chapters?
func right(s api.System) bool {
	return term.Right(s.Sigs, s.A) && ifg.Right(s.A, s.G) && work.Right(s.W)
}

// eachSlice goes through all slices in a value, deep ones too.
func eachSlice(v reflect.Value, do func(slice reflect.Value)) {
	switch v.Kind() {
	case reflect.Struct:
		for i := range v.NumField() {
			eachSlice(v.Field(i), do)
		}
	case reflect.Slice:
		do(v)
		for i := range v.Len() {
			eachSlice(v.Index(i), do)
		}
	}
}

// lies is where the memory of each slice in values lies: from, to (with its room).
func lies(values ...any) [][2]uintptr {
	var out [][2]uintptr
	for _, value := range values {
		eachSlice(reflect.ValueOf(value), func(l reflect.Value) {
			if size := uintptr(l.Cap()) * l.Type().Elem().Size(); size > 0 {
				out = append(out, [2]uintptr{l.Pointer(), l.Pointer() + size})
			}
		})
	}
	return out
}

// isNew: does no slice of an answer share memory with another one of it, or with one that was handed in?
func isNew(answer any, handed ...any) bool {
	own, all := lies(answer), lies(append(handed, answer)...)
	for _, x := range own {
		times := 0
		for _, y := range all {
			if x[0] < y[1] && y[0] < x[1] {
				times++
			}
		}
		if times != 1 {
			return false
		}
	}
	return true
}

// roomy is a copy of a value, all slices of which have room behind them.
func roomy(v reflect.Value) reflect.Value {
	out := reflect.New(v.Type()).Elem()
	switch v.Kind() {
	case reflect.Struct:
		for i := range v.NumField() {
			out.Field(i).Set(roomy(v.Field(i)))
		}
	case reflect.Slice:
		out.Set(reflect.MakeSlice(v.Type(), v.Len(), v.Len()+2))
		for i := range v.Len() {
			out.Index(i).Set(roomy(v.Index(i)))
		}
	default:
		out.Set(v)
	}
	return out
}

// roomySystem is a copy of a system, with room behind all lists.
func roomySystem(s api.System) api.System { return roomy(reflect.ValueOf(s)).Interface().(api.System) }

// whole is all that values have, with the room behind each list.
func whole(values ...any) string {
	out := ""
	for _, value := range values {
		eachSlice(reflect.ValueOf(value), func(l reflect.Value) { out += fmt.Sprintf("%d %v;", l.Len(), l.Slice(0, l.Cap())) })
	}
	return out
}
