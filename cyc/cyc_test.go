package cyc_test

import (
	"math"
	"math/rand"
	"slices"
	"testing"

	"tammy/api"
	"tammy/cyc"
	"tammy/ifg"
)

// ends are the numbers at both ends of all.
func ends() []int { return []int{math.MinInt, math.MinInt + 1, math.MaxInt - 1, math.MaxInt} }

// wantNext: are those next to a variable these, by name?
func (s *shelf) wantNext(t *testing.T, g api.Graph, of, want string) {
	t.Helper()
	if got := s.told(cyc.Next(s.a, g, s.v(of))); got != want {
		t.Errorf("next to %s, in %v, are %q, not %q", of, g, got, want)
	}
}

// wantPath: is the way from one to another one that, by names?
func (s *shelf) wantPath(t *testing.T, g api.Graph, x, y string, depth int, want string) {
	t.Helper()
	if got := s.told(cyc.Path(s.a, g, s.v(x), s.v(y), depth)); got != want {
		t.Errorf("from %s to %s, in %v, at most %d steps: %q, not %q", x, y, g, depth, got, want)
	}
}

// TestExample (P13.2): the document's, by each order of the two.
func TestExample(t *testing.T) {
	s := shelfOf(t, 2)
	for _, ranks := range [][]int{nil, {1, 0}, {0, 1}, {-1}, {1}} {
		g := s.graph(t, ranks, "A<B B<A")
		for depth := 1; depth < 4; depth++ {
			s.wantPath(t, g, "B", "A", depth, "BA")
			s.wantPath(t, g, "A", "B", depth, "AB")
		}
	}
}

// TestNext (P13.1): who is next, whichever row tells it; rising by number, not by place nor by order; each once.
func TestNext(t *testing.T) {
	s := shelfOf(t, 6)
	for _, ranks := range [][]int{nil, {6, 5, 4, 3, 2, 1}, {0, 2, 1, -1, 2}, {math.MaxInt, 3, math.MinInt}} {
		g := s.graph(t, ranks, "C<E C<A F<C C<B C<D D<C A<a a<B p(A)<C C<p~1(B) B<p(A) E<0 1<E")
		s.wantNext(t, g, "C", "ABDE")
		s.wantNext(t, g, "D", "C")
		s.wantNext(t, g, "F", "C")
		for _, v := range []string{"A", "B", "E"} {
			s.wantNext(t, g, v, "")
		}
	}
	s.wantNext(t, ifg.New(nil, 6), "A", "")
}

// TestNextClasses (P13.1): classes have one who is next, however many of theirs are told of; all of a class have those next to its first one.
func TestNextClasses(t *testing.T) {
	s := shelfOf(t, 6)
	g := s.graph(t, nil, "A<F F<B F<C E<D")
	s.wantNext(t, g, "F", "BC")
	g = s.on(t, g, "C=B") // C stands in F's row still
	s.wantNext(t, g, "F", "B")
	s.wantNext(t, g, "C", "")
	g = s.on(t, g, "C<D")
	s.wantNext(t, g, "C", "D")
	s.wantNext(t, g, "B", "D")
	g = s.on(t, g, "B=A") // each of A, B and C stands in a row of F
	for _, v := range []string{"A", "B", "C"} {
		s.wantNext(t, g, v, "DF")
	}
	s.wantNext(t, g, "F", "A")
	s.wantNext(t, g, "E", "D")
	g = s.on(t, g, "E=A") // what was told of E is dropped
	s.wantNext(t, g, "E", "DF")
	s.wantNext(t, s.on(t, g, "D=A"), "D", "F")
	s.wantNext(t, s.on(t, g, "F=A"), "F", "D")
	// By ranks D is ahead of all: it is the first one.
	g = s.on(t, s.graph(t, []int{5, 4, 3, -1}, "B<A C<A"), "B=D C=D")
	for _, v := range []string{"B", "C", "D"} {
		s.wantNext(t, g, v, "A")
	}
	s.wantNext(t, g, "A", "")
	s.wantNext(t, s.on(t, g, "D<A A<C"), "A", "D")
}

// TestNextAll (P13.1): right graphs by chance, each variable, against a second reading.
func TestNextAll(t *testing.T) {
	r, many := rand.New(rand.NewSource(1)), map[int]int{}
	for range 300 {
		n := 1 + r.Intn(8)
		a := chanceStore(t, r, n)
		g := chanceGraph(r, a, n, 1+r.Intn(4))
		for v := range n {
			var want []int
			for w := range n {
				if isNext(a, g, w, first(g, v)) {
					want = append(want, w)
				}
			}
			if got := cyc.Next(a, g, v); !slices.Equal(got, want) {
				t.Fatalf("Next(%v, %v, %d): %v, not %v", a.Keys, g, v, got, want)
			}
			many[len(want)]++
		}
	}
	for n := range 4 {
		if many[n] < 50 {
			t.Error(many)
		}
	}
}

// TestPath (P13.2): as few steps as may be, both ends on it; no way back, where there is none.
func TestPath(t *testing.T) {
	s := shelfOf(t, 6)
	for _, ranks := range [][]int{nil, {6, 5, 4, 3, 2, 1}, {0, 2, 1, -1, 2}, {3, 3, math.MinInt, 0, math.MaxInt}} {
		g := s.graph(t, ranks, "A<B B<C C<D D<E a<F F<a")
		s.wantPath(t, g, "A", "E", 9, "ABCDE")
		s.wantPath(t, g, "A", "B", 9, "AB")
		s.wantPath(t, g, "B", "D", 9, "BCD")
		for _, no := range []string{"EA", "BA", "AF", "FA", "EF"} {
			s.wantPath(t, g, no[:1], no[1:], 9, "")
		}
		g = s.on(t, g, "B<E")
		s.wantPath(t, g, "A", "E", 9, "ABE")
		s.wantPath(t, g, "A", "D", 9, "ABCD")
		g = s.on(t, g, "E<A")
		s.wantPath(t, g, "E", "D", 9, "EABCD")
		s.wantPath(t, g, "C", "B", 9, "CDEAB")
		s.wantPath(t, g, "E", "F", 9, "")
	}
}

// TestPathDepth (P13.2, P13.4): at most so many steps; more than it needs make it no longer.
func TestPathDepth(t *testing.T) {
	s := shelfOf(t, 6)
	g := s.graph(t, []int{2, 1}, "A<B B<C C<D D<E E<F B<D")
	for depth := -3; depth < 9; depth++ {
		for _, want := range []string{"AB", "ABC", "ABD", "ABDE", "ABDEF", "CD", "CDEF", "DE"} {
			x, y := want[:1], want[len(want)-1:]
			if depth < len(want)-1 {
				want = ""
			}
			s.wantPath(t, g, x, y, depth, want)
		}
	}
	for _, depth := range ends() {
		want := "ABDEF"
		if depth < 0 {
			want = ""
		}
		s.wantPath(t, g, "A", "F", depth, want)
		s.wantPath(t, g, "F", "A", depth, "")
	}
}

// TestPathOneClass (P13.2): of who are of one class, their first one alone, whatever the depth.
func TestPathOneClass(t *testing.T) {
	s := shelfOf(t, 5)
	g := s.graph(t, []int{4, 3, 2}, "A<B B<A C<D D<C A=D E=C B=C")
	for _, depth := range append(ends(), -1, 0, 1, 5) {
		for _, v := range []string{"A", "D"} {
			s.wantPath(t, g, "A", v, depth, "D")
			s.wantPath(t, g, v, "A", depth, "D")
		}
		for _, v := range []string{"B", "C", "E"} {
			for _, w := range []string{"B", "C", "E"} {
				s.wantPath(t, g, v, w, depth, "E")
			}
		}
	}
	// The ends are told by their first ones.
	g = s.on(t, g, "B<A")
	for _, v := range []string{"B", "C", "E"} {
		s.wantPath(t, g, v, "A", 1, "ED")
		s.wantPath(t, g, v, "D", 1, "ED")
		s.wantPath(t, g, "A", v, 1, "")
	}
}

// TestPathLeast (P13.2): of several ways of as few steps the one each of whom is reached from the least one, by number.
func TestPathLeast(t *testing.T) {
	s := shelfOf(t, 7)
	for _, ranks := range [][]int{nil, {7, 6, 5, 4, 3, 2, 1}, {0, 3, 1, 2, -1, 5, 4}} {
		g := s.graph(t, ranks, "G<C G<B G<D C<A D<A B<A")
		s.wantPath(t, g, "G", "A", 9, "GBA")
		// Of D and E, who are both two steps from A, D is the less one, though E is reached from the less one of B and C: it counts who is ahead on the way, not the way as a whole.
		g = s.graph(t, ranks, "A<B A<C B<E C<D D<G E<G")
		s.wantPath(t, g, "A", "G", 9, "ACDG")
		g = s.graph(t, ranks, "A<B A<C B<E C<D D<F E<F F<G B<D")
		s.wantPath(t, g, "A", "G", 9, "ABDFG")
		g = s.graph(t, ranks, "F<E F<D F<C C<B D<A E<A A<G B<G")
		s.wantPath(t, g, "F", "A", 9, "FDA")
		s.wantPath(t, g, "F", "B", 9, "FCB")
		s.wantPath(t, g, "F", "G", 9, "FDAG")
		// Who is less, but reached by more steps, isn't asked.
		g = s.graph(t, ranks, "F<E F<B B<A A<G E<G")
		s.wantPath(t, g, "F", "G", 9, "FEG")
	}
	g := s.graph(t, []int{9, 8, 7, 6}, "A<B A<C B<D C<D B=E") // E, reached where B was, isn't less than C
	s.wantPath(t, s.on(t, g, "A<E E<D"), "A", "D", 9, "ACD")
}

// TestPathAll (P13.2, P13.4): right graphs by chance, each two variables, each depth, against a second reading.
func TestPathAll(t *testing.T) {
	r, lengths := rand.New(rand.NewSource(2)), map[int]int{}
	for range 300 {
		n := 1 + r.Intn(9)
		a := chanceStore(t, r, n)
		g := chanceGraph(r, a, n, 1+r.Intn(8))
		is := table(a, g)
		many := steps(n, is)
		for x := range n {
			for y := range n {
				for depth := -1; depth <= n; depth++ {
					got, want := cyc.Path(a, g, x, y, depth), secondPath(many, is, first(g, x), first(g, y), depth)
					if !slices.Equal(got, want) {
						t.Fatalf("Path(%v, %v, %d, %d, %d): %v, not %v", a.Keys, g, x, y, depth, got, want)
					}
					lengths[len(got)]++
				}
			}
		}
	}
	for n := range 6 {
		if lengths[n] < 200 {
			t.Error(lengths)
		}
	}
}

// TestNobody (P13.1, P13.2): who isn't there has nobody next, and no way.
func TestNobody(t *testing.T) {
	s := shelfOf(t, 3)
	g := s.graph(t, nil, "A<B B<A C<A")
	for _, no := range append(ends(), -1, -2, 3, 4, s.at(t, "A"), s.at(t, "p(A)")) {
		if got := cyc.Next(s.a, g, no); len(got) > 0 {
			t.Errorf("next to %d are %v", no, got)
		}
		for _, xy := range [][2]int{{no, 0}, {1, no}, {no, no}} {
			if got := cyc.Path(s.a, g, xy[0], xy[1], 5); len(got) > 0 {
				t.Errorf("from %d to %d: %v", xy[0], xy[1], got)
			}
		}
	}
	for _, no := range []int{0, -1} {
		if len(cyc.Next(s.a, api.Graph{}, no)) > 0 || len(cyc.Path(s.a, api.Graph{}, no, no, 5)) > 0 {
			t.Error("a graph without variables has one")
		}
	}
}
