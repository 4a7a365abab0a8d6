package solve_test

import (
	"fmt"
	"math"
	"slices"
	"strings"
	"testing"

	"tammy/api"
	"tammy/hash"
	"tammy/solve"
	"tammy/term"
)

// TestExample (P14.2, P14.3): the document's.
func TestExample(t *testing.T) {
	for _, depth := range []int{0, 1, api.MostFar} {
		for _, terms := range []string{"a X b", "b X a", "X b a", "b a X"} {
			s := shelfOf(t, nil, depth, terms)
			s.put(t, "a<X X<b")
			s.run(t)
			want(t, "clashes", s.pairs(s.Clash), "a<b")
			if s.Steps != 3 || s.waits() != "" {
				t.Errorf("%d steps, %q waits", s.Steps, s.waits())
			}
		}
	}
}

// TestNew (P14.1): nothing is there but what the document says.
func TestNew(t *testing.T) {
	for _, l := range [][]api.Sig{nil, row(), {{Name: "x", Args: "+-=+-=+-"}}} {
		for _, ranks := range [][]int{nil, {3, -1, 0}, {math.MinInt, math.MaxInt}} {
			for _, depth := range []int{0, 1, 49, 50} {
				s, e := solve.New(l, ranks, depth)
				if e != api.OK || !slices.Equal(s.Sigs, l) || !slices.Equal(s.G.Ranks, ranks) || s.Depth != depth {
					t.Errorf("New(%v, %v, %d): %v, %d", l, ranks, depth, s, e)
				}
				if !hash.Same(s.A, term.New()) || len(s.G.U.V)+len(s.G.U.Notes)+len(s.G.Pre)+len(s.G.Suc)+len(s.W.L)+len(s.W.Seen.Keys)+len(s.Clash) != 0 || s.Steps != 0 {
					t.Errorf("New(%v, %v, %d): %v", l, ranks, depth, s)
				}
				if !right(s) {
					t.Errorf("New(%v, %v, %d): %v isn't right", l, ranks, depth, s)
				}
			}
		}
	}
}

// TestNewWrong (P14.1): ErrArg, and nothing.
func TestNewWrong(t *testing.T) {
	var many []api.Sig
	for i := range api.MaxSigs + 1 {
		many = append(many, api.Sig{Name: "c" + strings.Repeat("x", i/8) + strings.Repeat("y", i%8)})
	}
	if _, e := solve.New(many[1:], nil, 0); e != api.OK {
		t.Errorf("%d constructors: %d", api.MaxSigs, e)
	}
	for _, x := range []struct {
		l     []api.Sig
		depth int
	}{
		{nil, -1}, {nil, 51}, {nil, math.MinInt}, {nil, math.MaxInt}, {row(), -1}, {row(), 51},
		{many, 0}, {[]api.Sig{{Name: "a"}, {Name: "a", Args: "+"}}, 0}, {[]api.Sig{{Name: "A"}}, 0}, {[]api.Sig{{}}, 0},
		{[]api.Sig{{Name: "a", Args: "+*"}}, 5}, {[]api.Sig{{Name: "a", Args: "+++++++++"}}, 50}, {[]api.Sig{{Name: "A"}}, 51},
	} {
		if s, e := solve.New(x.l, []int{1, 2}, x.depth); e != api.ErrArg || told(s) != told(api.System{}) {
			t.Errorf("New(%v, %d): %v, %d", x.l, x.depth, s, e)
		}
	}
}

// TestWith (P14.1): the store, and a variable for each number of a Var; all else stays.
func TestWith(t *testing.T) {
	s := shelfOf(t, []int{2, 1}, 7, "a X b p(X)")
	s.put(t, "a<X X<b a<b b<p(X)")
	s.once(t)
	s.once(t)
	was := s.System
	for _, x := range []struct {
		terms string
		many  int
	}{{"", 1}, {"X", 1}, {"e(a)", 1}, {"Y", 2}, {"X|Z", 3}, {"c(V,W)", 5}} {
		for _, text := range strings.Fields(x.terms) {
			s.at(t, text)
		}
		got := solve.With(was, s.A)
		if len(got.G.U.V) != x.many || !right(got) || !hash.Same(got.A, s.A) {
			t.Errorf("with %s: %v", x.terms, got)
		}
		if rest := got.G.U.V; !slices.Equal(rest, []int{0, 1, 2, 3, 4}[:x.many]) {
			t.Errorf("with %s: classes %v", x.terms, rest)
		}
		less := got
		less.A, less.G.U, less.G.Pre, less.G.Suc = was.A, was.G.U, got.G.Pre[:1], got.G.Suc[:1]
		want(t, "all else", told(less), told(was))
		for v := 1; v < x.many; v++ {
			if len(got.G.Pre[v])+len(got.G.Suc[v]) > 0 {
				t.Errorf("with %s: of %d %v, %v is told", x.terms, v, got.G.Pre[v], got.G.Suc[v])
			}
		}
	}
	// As many variables as there are already: the graph stays.
	s = shelfOf(t, nil, 0, "X Y a X|Y")
	s.put(t, "X<Y a<Y")
	s.run(t)
	want(t, "graph", s.graph(), "X,a<Y<")
	want(t, "again", told(solve.With(s.System, s.A)), told(s.System))
}

// TestWithOrder (P14.1): the Vars may stand in any order, and between others; a store without any asks for none.
func TestWithOrder(t *testing.T) {
	s, _ := solve.New(row(), nil, 0)
	if got := solve.With(s, s.A); told(got) != told(s) {
		t.Errorf("%v, not %v", got, s)
	}
	a := s.A
	for _, x := range []api.Term{{Kind: api.Var, Sym: 3}, {Kind: api.Con}, {Kind: api.Var}, {Kind: api.Var, Sym: 2}, {Kind: api.Con, Sym: 5, Args: []int{2, 4}}, {Kind: api.Var, Sym: 1}} {
		a, _, _ = term.Put(row(), a, x, noLimit)
	}
	if got := solve.With(s, a); len(got.G.U.V) != 4 || !right(got) {
		t.Errorf("%v", got)
	}
}

// TestPut (P14.1): it waits, but for what was seen ever; nothing else is done.
func TestPut(t *testing.T) {
	s := shelfOf(t, nil, 3, "a X b")
	was := told(s.System)
	s.put(t, "X<b a<X a<b X<b a<X")
	want(t, "waits", s.waits(), "a<X X<b a<b")
	want(t, "seen", s.seen(), "X<b a<X a<b")
	rest := s.System
	rest.W = api.Queue{Seen: api.Keyed{Slots: make([]int, api.MinSlots)}}
	want(t, "all else", told(rest), was)
	s.once(t)
	s.put(t, "a<X")
	want(t, "waits", s.waits(), "a<b X<b")
	want(t, "seen", s.seen(), "X<b a<X a<b")
	if !right(s.System) {
		t.Error("not right")
	}
}

// TestOnceNothing (P14.2): where nothing waits, the system, and no.
func TestOnceNothing(t *testing.T) {
	s := shelfOf(t, []int{1}, 3, "a X b")
	for range 3 {
		if got, did := solve.Once(s.System); did || told(got) != told(s.System) {
			t.Errorf("%v, %v", got, did)
		}
		s.put(t, "a<X X<b b<X")
		s.run(t)
	}
}

// TestOnceDone (P14.2): what holds is taken, and that is all.
func TestOnceDone(t *testing.T) {
	for _, text := range []string{"a<a", "0<a", "a<1", "X<X", "0<X", "X<1", "0<1", "a<p~1(X)", "p(0)<p(0)"} {
		s := shelfOf(t, nil, 3, "a X p~1(X)")
		s.put(t, text)
		was := s.System
		s.once(t)
		was.W.L, was.Steps = nil, 1
		want(t, text, told(s.System), told(was))
	}
}

// TestOnceParts (P14.2): each part waits, in order, but for what was seen.
func TestOnceParts(t *testing.T) {
	for _, x := range []struct{ put, seen, waits string }{
		{"c(a,X)<c(X,b)", "c(a,X)<c(X,b) a<X b<X", "a<X b<X"},
		{"c(X,a)<c(a,X)", "c(X,a)<c(a,X) X<a", "X<a"},
		{"e(X)<e(a)", "e(X)<e(a) X<a a<X", "a<X X<a"},
		{"e(X)<e(X)", "e(X)<e(X)", ""},
		{"m(1)<m(0)", "m(1)<m(0) 0<1", "0<1"},
		{"X|a<b", "X|a<b X<b a<b", "a<b X<b"},
		{"X|a|X<b", "X|a|X<b X|a<b X<b", "X<b X|a<b"},
		{"a<X&b", "a<X&b a<X a<b", "a<b a<X"},
		{"a|X<b&X", "a|X<b&X a<b&X X<b&X", "a<b&X X<b&X"},
		{"p(a)<p~1(X)", "p(a)<p~1(X) a<X", "a<X"},
		{"1<m~1(X)", "1<m~1(X) X<0", "X<0"},
		{"1<e~1(X)", "1<e~1(X) 1<X X<0", "1<X X<0"},
		{"p(a)<p(a)&p(X)", "p(a)<p(a)&p(X) p(a)<p(a) p(a)<p(X)", "p(a)<p(a) p(a)<p(X)"},
	} {
		s := shelfOf(t, nil, 3, "a b X")
		s.put(t, x.put)
		graph := s.graph()
		s.once(t)
		want(t, x.put+": seen", s.seen(), x.seen)
		want(t, x.put+": waits", s.waits(), x.waits)
		want(t, x.put+": graph", s.graph(), graph)
		if len(s.Clash) > 0 {
			t.Errorf("%s: clashes %v", x.put, s.Clash)
		}
	}
}

// TestOnceClash (P14.2): clashes are laid where they rise, and nothing else is done.
func TestOnceClash(t *testing.T) {
	s := shelfOf(t, nil, 3, "a b p(a) m(a)")
	s.put(t, "1<0 1<a a<0 a<b a<p(a) b<a p(a)<b m(a)<p(a)")
	want(t, "clashes", s.pairs(s.Clash), "")
	s.once(t)
	want(t, "clashes", s.pairs(s.Clash), "1<0")
	s.run(t)
	all := "1<0 1<a a<0 a<b a<p(a) b<a p(a)<b m(a)<p(a)"
	want(t, "clashes", s.pairs(s.Clash), all)
	want(t, "seen", s.seen(), all)
	// What comes later is less than what was found.
	s.put(t, "1<b a<m(a) m(a)<a")
	s.run(t)
	want(t, "clashes", s.pairs(s.Clash), "1<0 1<a 1<b a<0 a<b a<p(a) a<m(a) b<a p(a)<b m(a)<a m(a)<p(a)")
	want(t, "graph", s.graph(), "")
	if s.Steps != 11 {
		t.Errorf("%d steps", s.Steps)
	}
}

// TestOnceAtom (P14.2): the graph is told; what comes of it waits, in order.
func TestOnceAtom(t *testing.T) {
	s := shelfOf(t, nil, 0, "X b a p(X) p~1(X) Y")
	s.put(t, "a<X")
	s.once(t)
	want(t, "graph", s.graph(), "a<X<")
	want(t, "seen", s.seen(), "a<X")
	s.put(t, "b<X p(X)<X")
	s.once(t)
	s.once(t)
	want(t, "graph", s.graph(), "b,a,p(X)<X<")
	want(t, "waits", s.waits(), "")
	s.put(t, "X<p~1(X)")
	s.once(t)
	want(t, "graph", s.graph(), "b,a,p(X)<X<p~1(X)")
	want(t, "seen", s.seen(), "a<X b<X p(X)<X X<p~1(X) b<p~1(X) a<p~1(X) p(X)<p~1(X)")
	want(t, "waits", s.waits(), "b<p~1(X) a<p~1(X) p(X)<p~1(X)")
	s.run(t)
	want(t, "seen", s.seen(), "a<X b<X p(X)<X X<p~1(X) b<p~1(X) a<p~1(X) p(X)<p~1(X) X<X")
	// Y, which is behind X, tells of it.
	s.put(t, "X<Y Y<a")
	s.once(t)
	want(t, "graph", s.graph(), "b,a,p(X)<X<p~1(X) X<Y<")
	s.once(t)
	want(t, "graph", s.graph(), "b,a,p(X)<X<p~1(X) X<Y<a")
	want(t, "waits", s.waits(), "X<a")
	s.run(t)
	want(t, "graph", s.graph(), "b,a,p(X)<X<a,p~1(X) X<Y<a")
	want(t, "clashes", s.pairs(s.Clash), "b<a p(X)<a")
}

// TestOnceNotNew (P14.2): what stands there already tells the graph nothing.
func TestOnceNotNew(t *testing.T) {
	s := shelfOf(t, nil, 1, "X Y a")
	s.put(t, "X<Y Y<X a<Y a<X X<a")
	s.run(t)
	want(t, "graph", s.graph(), "a<X<a Y=X")
	want(t, "seen", s.seen(), "X<Y Y<X a<Y a<X X<a X<X a<a")
	steps := s.Steps
	s.put(t, "Y<a")
	s.run(t)
	want(t, "graph", s.graph(), "a<X<a Y=X")
	want(t, "seen", s.seen(), "X<Y Y<X a<Y a<X X<a X<X a<a Y<a")
	if s.Steps != steps+1 {
		t.Errorf("%d steps behind %d", s.Steps, steps)
	}
}

// TestCircle (P14.2): a circle that a constraint closes is made one, if it is of few enough steps; what comes of that waits behind what came of the constraint.
func TestCircle(t *testing.T) {
	for _, x := range []struct {
		ranks             []int
		depth             int
		graph, seen, ends string
	}{
		// Z<X is told by Z, since X is ahead; Y, which is below Z, comes of it; then the way from X to Z is sought.
		{nil, 0, "X<Y< Y<Z<X", "Y<X", "X<Y<X Y<Z<X"},
		{nil, 1, "X<Y< Y<Z<X", "Y<X", "Y=X Y<Z<X"},
		{nil, 2, "Y=X Z=X", "Y<X X<X", "Y=X Z=X"},
		{nil, 3, "Y=X Z=X", "Y<X X<X", "Y=X Z=X"},
		{nil, 50, "Y=X Z=X", "Y<X X<X", "Y=X Z=X"},
		// Z is ahead, then X: X<Z came of Y, so that the way is one of a step, and Y isn't on it.
		{[]int{5, 6, 4}, 0, "Z<X<Z X<Y<Z", "Z<Z", "Z<X<Z X<Y<Z"},
		{[]int{5, 6, 4}, 1, "X=Z X<Y<Z", "Z<Z", "X=Z X<Y<Z"},
		// Y is ahead, then X: the first of the way is X, but that of the class is Y.
		{[]int{1, 0, 2}, 1, "<X<Y Y<Z<X", "Y<X", "X=Y Y<Z<X"},
		{[]int{1, 0, 2}, 2, "X=Y Z=Y", "Y<X Y<Y", "X=Y Z=Y"},
	} {
		s := shelfOf(t, x.ranks, x.depth, "X Y Z")
		s.put(t, "X<Y Y<Z")
		s.run(t)
		s.put(t, "Z<X")
		was := s.seen() + " "
		s.once(t)
		name := fmt.Sprintf("depth %d, ranks %v", x.depth, x.ranks)
		want(t, name+": graph", s.graph(), x.graph)
		want(t, name+": come", strings.TrimPrefix(s.seen(), was), x.seen)
		s.run(t)
		want(t, name+": in the end", s.graph(), x.ends)
	}
}

// TestCircleOrder (P14.2): all that comes waits, in order: what comes of the constraint, then what was told of each variable on the way that is made one with its first.
func TestCircleOrder(t *testing.T) {
	for _, x := range []struct {
		ranks []int
		seen  string
		graph string
	}{
		{nil, "Y<X p(a)<X X<X a<X", "a,p(a)<X<b,p(b) Y=X Z=X"},
		// Z is ahead, and X was told already that it is below Z: Y isn't on the way. What was told of X comes to Z.
		{[]int{1, 1, 0}, "Z<Z Z<p(b)", "X=Z X,a<Y<Z,p(b) a,p(a)<Z<b,p(b)"},
	} {
		s := shelfOf(t, x.ranks, 9, "X Y Z a b p(a) p(b)")
		s.put(t, "X<Y Y<Z a<Y p(a)<Z Z<b Y<p(b)")
		s.run(t)
		was := s.seen() + " "
		s.put(t, "Z<X")
		s.once(t)
		want(t, "come", strings.TrimPrefix(s.seen(), was), "Z<X "+x.seen)
		s.run(t)
		want(t, "in the end", s.graph(), x.graph)
	}
}

// TestCircleNotNew (P14.2): no way is sought, if what is told stood there already, though there is a circle.
func TestCircleNotNew(t *testing.T) {
	s := shelfOf(t, nil, 0, "X Y Z")
	s.put(t, "X<Y Y<X")
	s.run(t)
	s.Depth = 5 // as of now
	s.put(t, "X<Z Z<X")
	s.run(t)
	want(t, "graph", s.graph(), "X<Y<X Z=X")
	s.put(t, "Z<Y") // X, the one for Z, stands there
	s.run(t)
	want(t, "graph", s.graph(), "X<Y<X Z=X")
}

// TestCircleOfTerms (P14.2): circles are of variables alone.
func TestCircleOfTerms(t *testing.T) {
	s := shelfOf(t, nil, 50, "X p(X) a")
	s.put(t, "X<p(X) p(X)<X a<X X<a X<0 1<X")
	s.run(t)
	want(t, "graph", s.graph(), "1,p(X),a<X<0,p(X),a")
	want(t, "clashes", s.pairs(s.Clash), "1<0 1<p(X) 1<a p(X)<0 p(X)<a a<0 a<p(X)")
}

// TestRun (P14.3): steps, as long as something waits, if these aren't more than may be.
func TestRun(t *testing.T) {
	for _, text := range []string{"", "a<a", "a<X X<b", "X<Y Y<Z Z<X a<Y Z<b c(X,a)|p(a)<Z", "1<p~1(X) X<m~1(Y) e(X)<e(Y)"} {
		s := shelfOf(t, []int{0, 2, 1}, 4, "X a Y b Z p(a)")
		s.put(t, text)
		steps, all := 0, []string{told(s.System)}
		end := s.System
		for {
			out, did := solve.Once(end)
			if !did {
				break
			}
			steps++
			end, all = out, append(all, told(out))
		}
		was := told(s.System)
		for budget := -3; budget < steps+4; budget++ {
			got, e := solve.Run(s.System, budget)
			switch {
			case budget < steps && (e != api.ErrLimit || told(got) != was):
				t.Errorf("%q, %d of %d steps: %d, %v", text, budget, steps, e, got)
			case budget >= steps && (e != api.OK || told(got) != told(end)):
				t.Errorf("%q, %d of %d steps: %d, %v", text, budget, steps, e, got)
			}
		}
		for budget, is := range map[int]api.Errno{math.MaxInt: api.OK, math.MinInt: api.ErrLimit, 1 << 32: api.OK} {
			if _, e := solve.Run(s.System, budget); e != is {
				t.Errorf("%q, %d: %d", text, budget, e)
			}
		}
		if end.Steps != steps || len(end.W.L) > 0 {
			t.Errorf("%q: %d steps are %d", text, steps, end.Steps)
		}
	}
}

// TestRunOn (P14.3): the budget is of one call, however many steps were done; what waits goes on.
func TestRunOn(t *testing.T) {
	s := shelfOf(t, nil, 2, "a X b")
	s.put(t, "a<X X<b")
	s.run(t)
	s.put(t, "X<Y Y<a b<Y") // and X<a, a<a and b<a come of these
	was := told(s.System)
	if got, e := solve.Run(s.System, 5); e != api.ErrLimit || told(got) != was {
		t.Errorf("%d, %v", e, got)
	}
	if got, e := solve.Run(s.System, 6); e != api.OK || got.Steps != 9 || len(got.W.L) > 0 {
		t.Errorf("%d, %d steps", e, got.Steps)
	}
}

// TestSteps (R5): steps go round at 2^64.
func TestSteps(t *testing.T) {
	s := shelfOf(t, nil, 2, "a X b")
	s.Steps = math.MaxInt - 1
	s.put(t, "a<X X<b")
	got, e := solve.Run(s.System, 3)
	if e != api.OK || got.Steps != math.MinInt+1 {
		t.Errorf("%d, %d steps", e, got.Steps)
	}
}

// TestSame (P14.1): all of it, element by element.
func TestSame(t *testing.T) {
	s := shelfOf(t, []int{3}, 2, "a X b Y")
	s.put(t, "a<X X<b b<Y X<Y Y<X 1<b")
	for range 4 {
		s.once(t)
	}
	all := []api.System{s.System, {}}
	for _, change := range []func(s *api.System){
		func(s *api.System) { s.Sigs[1].Name = "z" },
		func(s *api.System) { s.Sigs[2].Args = "=" },
		func(s *api.System) { s.Sigs = s.Sigs[1:] },
		func(s *api.System) { s.A.Keys[2][0]++ },
		func(s *api.System) { s.A.Keys[3] = s.A.Keys[3][:2] },
		func(s *api.System) { s.A.Keys = s.A.Keys[:4] },
		func(s *api.System) { s.A.Slots[5] += 90 },
		func(s *api.System) { s.A.Slots = s.A.Slots[1:] },
		func(s *api.System) { s.G.Ranks[0]++ },
		func(s *api.System) { s.G.U.V[1]-- },
		func(s *api.System) { s.G.U.Notes[1].Was++ },
		func(s *api.System) { s.G.U.Marks = []int{0} },
		func(s *api.System) { s.G.Pre[0] = []int{90} },
		func(s *api.System) { s.G.Suc[1] = []int{90} },
		func(s *api.System) { s.W.L[0][1]++ },
		func(s *api.System) { s.W.L = s.W.L[1:] },
		func(s *api.System) { s.W.Seen.Keys[0][0]++ },
		func(s *api.System) { s.W.Seen.Slots[0] += 90 },
		func(s *api.System) { s.Clash[0][0] += 90 },
		func(s *api.System) { s.Clash = nil },
		func(s *api.System) { s.Steps++ },
		func(s *api.System) { s.Depth-- },
	} {
		other := roomySystem(s.System)
		change(&other)
		all = append(all, other)
	}
	for i, x := range all {
		for k, y := range all {
			if solve.Same(x, roomySystem(y)) != (i == k) {
				t.Errorf("%d and %d: %v, %v", i, k, x, y)
			}
		}
	}
	empty := api.System{Sigs: []api.Sig{}, Clash: []api.Pair{}, W: api.Queue{L: []api.Pair{}}, G: api.Graph{Pre: [][]int{}, Ranks: []int{}}, A: api.Keyed{Keys: [][]int{}}}
	if !solve.Same(empty, api.System{}) {
		t.Error("lists of nothing aren't the same")
	}
}
