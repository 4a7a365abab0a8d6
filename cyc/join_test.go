package cyc_test

import (
	"math"
	"math/rand"
	"slices"
	"testing"

	"tammy/api"
	"tammy/cyc"
	"tammy/ifg"
)

// firsts is of each variable the first one.
func firsts(g api.Graph) []int {
	var out []int
	for v := range g.U.V {
		out = append(out, first(g, v))
	}
	return out
}

// TestJoin (P13.3): each is made one with the first of the row, in order; all that comes of it, in order, each the one for itself when it comes.
func TestJoin(t *testing.T) {
	s := shelfOf(t, 5)
	g := s.graph(t, nil, "A<B a<B B<C C<0 C<A D<a D<B p(A)<E E<C")
	for _, x := range []struct{ row, first, come string }{
		{"", "ABCDE", ""}, {"A", "ABCDE", ""}, {"C", "ABCDE", ""}, {"BB", "ABCDE", ""},
		{"AB", "AACDE", "a<A A<A"}, {"BA", "AACDE", "a<A A<A"},
		{"ABC", "AAADE", "a<A A<A A<A A<0 A<A"}, {"BAC", "AAADE", "a<A A<A A<A A<0 A<A"},
		{"ACB", "AAADE", "B<A A<0 A<A a<A A<A"}, // when C's were told, B was its own one yet
		{"BC", "ABBDE", "B<B B<0 B<A"}, {"CB", "ABBDE", "B<B B<0 B<A"},
		{"CBA", "AAADE", "B<B B<0 B<A a<A A<A"}, {"CBBCACA", "AAADE", "B<B B<0 B<A a<A A<A"},
		{"DEB", "ABCBB", "p(A)<D D<C B<a B<B"}, {"EDB", "ABCBB", "p(A)<D D<C B<a B<B"},
		{"DBE", "ABCBB", "B<a B<B p(A)<B B<C"},
	} {
		var row []int
		for _, name := range x.row {
			row = append(row, s.v(string(name)))
		}
		got, come := cyc.Join(s.a, g, row)
		if s.told(firsts(got)) != x.first || s.pairs(come) != x.come || !ifg.Right(s.a, got) {
			t.Errorf("Join of %s: %s, %s, not %s, %s", x.row, s.told(firsts(got)), s.pairs(come), x.first, x.come)
		}
		if x.come == "" && !equal(got, g) {
			t.Errorf("Join of %s: %v, not %v", x.row, got, g)
		}
		for v, cell := range got.U.V {
			if cell != v && len(got.Pre[v])+len(got.Suc[v]) > 0 || cell == v && (!slices.Equal(got.Pre[v], g.Pre[v]) || !slices.Equal(got.Suc[v], g.Suc[v])) {
				t.Errorf("Join of %s: %v of %v", x.row, got, g)
			}
		}
	}
}

// TestJoinRanks (P13.3): the row's first one need not be the class's first one.
func TestJoinRanks(t *testing.T) {
	s := shelfOf(t, 4)
	g := s.graph(t, []int{3, 2, 1}, "A<B B<C C<D D<A a<B C<p(A)") // D, C, B, A
	got, come := cyc.Join(s.a, g, []int{1, 2, 3, 0})
	if s.told(firsts(got)) != "DDDD" || s.pairs(come) != "a<C C<C D<D D<p(A) D<D D<D" {
		t.Errorf("%s, %s", s.told(firsts(got)), s.pairs(come))
	}
	for v := range 4 {
		s.wantNext(t, got, s.names[v], "")
	}
}

// TestJoinAll (P13.3, P13.4): right graphs by chance, rows by chance, doubles among them: the variables made one, one by one; what is joined is one class, and what comes out right.
func TestJoinAll(t *testing.T) {
	r, came := rand.New(rand.NewSource(3)), 0
	for range 1000 {
		n := 1 + r.Intn(7)
		a := chanceStore(t, r, n)
		g := chanceGraph(r, a, n, 1+r.Intn(6))
		row := make([]int, r.Intn(n+3))
		for i := range row {
			row[i] = r.Intn(n)
		}
		want, wantCome, label := g, []api.Pair(nil), firsts(g)
		for _, v := range row[min(1, len(row)):] {
			var more []api.Pair
			want, more = ifg.One(a, want, row[0], v)
			wantCome = append(wantCome, more...)
			gone := label[v]
			for w := range label {
				if label[w] == gone {
					label[w] = label[row[0]]
				}
			}
		}
		got, come := cyc.Join(a, g, row)
		if !equal(got, want) || !slices.Equal(come, wantCome) || !ifg.Right(a, got) {
			t.Fatalf("Join(%v, %v, %v): %v, %v, not %v, %v", a.Keys, g, row, got, come, want, wantCome)
		}
		for v := range n {
			for w := range n {
				if (first(got, v) == first(got, w)) != (label[v] == label[w]) {
					t.Fatalf("Join(%v, %v, %v): %v are the classes, not %v", a.Keys, g, row, got.U.V, label)
				}
			}
		}
		came += len(come)
	}
	if came < 1000 {
		t.Errorf("only %d came", came)
	}
}

// TestJoinNobody (R1): of who isn't there nothing is told.
func TestJoinNobody(t *testing.T) {
	s := shelfOf(t, 3)
	g := s.graph(t, nil, "A<B a<B B<C")
	for _, no := range []int{-1, 3, s.at(t, "A"), math.MinInt, math.MaxInt} {
		for _, row := range [][]int{{no}, {no, 0, 1}, {no, no}, {0, no}} {
			if got, come := cyc.Join(s.a, g, row); len(come) > 0 || !equal(got, g) {
				t.Errorf("Join of %v: %v, %v", row, got, come)
			}
		}
		if got, come := cyc.Join(s.a, g, []int{0, no, 1}); s.told(firsts(got)) != "AAC" || s.pairs(come) != "a<A A<A" {
			t.Errorf("Join of A, %d, B: %v, %v", no, got, s.pairs(come))
		}
	}
	if got, come := cyc.Join(s.a, api.Graph{}, nil); len(come) > 0 || !equal(got, api.Graph{}) {
		t.Error(got, come)
	}
}
