package least_test

import (
	"math"
	"math/rand"
	"slices"
	"testing"

	"tammy/api"
	"tammy/ifg"
	"tammy/least"
	"tammy/solve"
	"tammy/uf"
)

// ends are the numbers at both ends of all.
func ends() []int { return []int{math.MinInt, math.MinInt + 1, math.MaxInt - 1, math.MaxInt} }

// wantBelow: is that, by texts, below a variable: by Below, and in Table?
func (s *shelf) wantBelow(t *testing.T, name, texts string) {
	t.Helper()
	want(t, "below "+name, s.texts(least.Below(s.System, s.v(name))), texts)
	want(t, "in the table, of "+name, s.texts(least.Table(s.System)[s.v(name)]), texts)
}

// TestExample (P15.2, P15.4): the document's, by each order of the two.
func TestExample(t *testing.T) {
	for _, ranks := range [][]int{nil, {1, 0}, {0, 1}, {-1}, {1}} {
		s := shelfOf(t, ranks, 0, "X Y a")
		s.put(t, "a<X X<Y")
		s.run(t)
		s.wantBelow(t, "X", "a")
		s.wantBelow(t, "Y", "a")
	}
}

// TestOrder (P15.1): first ones alone, by rank, then by number; a rank behind the row is 0.
func TestOrder(t *testing.T) {
	for _, x := range []struct {
		ranks []int
		joins [][2]int
		want  []int
	}{
		{nil, nil, []int{0, 1, 2, 3, 4}},
		{[]int{5, 4, 3, 2, 1}, nil, []int{4, 3, 2, 1, 0}},
		{[]int{1, 1, 1, 1, 1}, nil, []int{0, 1, 2, 3, 4}},
		{[]int{1}, nil, []int{1, 2, 3, 4, 0}},
		{[]int{1, 0, 2, -1}, nil, []int{3, 1, 4, 0, 2}},
		{[]int{0, -1, 0, -1}, nil, []int{1, 3, 0, 2, 4}},
		{[]int{math.MaxInt, 3, math.MinInt, -2}, nil, []int{2, 3, 4, 1, 0}},
		{[]int{9, 8, 7, 6, 5, -4, -9}, nil, []int{4, 3, 2, 1, 0}},
		{nil, [][2]int{{3, 1}}, []int{0, 1, 2, 4}},
		{[]int{0, 3, 0, 2}, [][2]int{{1, 3}}, []int{0, 2, 4, 3}},
		{[]int{2, 2, 1, 1}, [][2]int{{0, 1}, {1, 3}}, []int{4, 2, 3}},
		{[]int{4, 3, 2, 1}, [][2]int{{0, 1}, {2, 3}, {0, 3}, {4, 2}}, []int{4}},
	} {
		g := ifg.New(x.ranks, 5)
		for _, two := range x.joins {
			g.U = uf.Join(g.U, g.Ranks, two[0], two[1])
		}
		if got := least.Order(g); !slices.Equal(got, x.want) {
			t.Errorf("ranks %v, joined %v: %v, not %v", x.ranks, x.joins, got, x.want)
		}
	}
	if got := least.Order(api.Graph{Ranks: []int{1, 2}}); len(got) > 0 {
		t.Errorf("nobody: %v", got)
	}
}

// TestOrderAll (P15.1): classes by chance, against a second reading.
func TestOrderAll(t *testing.T) {
	r, joined := rand.New(rand.NewSource(1)), 0
	for range 3000 {
		n := r.Intn(30)
		g := ifg.New(chanceRanks(r, n), n)
		for range r.Intn(n + 1) {
			g.U = uf.Join(g.U, g.Ranks, r.Intn(n), r.Intn(n))
		}
		got := least.Order(g)
		if want := secondOrder(g); !slices.Equal(got, want) {
			t.Fatalf("Order(%v): %v, not %v", g, got, want)
		}
		joined += n - len(got)
	}
	if joined < 5000 {
		t.Error(joined)
	}
}

// TestRows (P15.2): the Cons and One of a Pre, and those of the Vars that stand there, on and on; nothing of a Suc.
func TestRows(t *testing.T) {
	s := shelfOf(t, nil, 0, "p(a) V X Y b Z p~1(X) p(Z) 1 0")
	s.lay(t, "p(a),1<V<b,0,p~1(X) b<X<V,p(a) V,X,b<Y<a,p(Z) p(Z),Y<Z<")
	s.wantBelow(t, "V", "1 p(a)")
	s.wantBelow(t, "X", "b")
	s.wantBelow(t, "Y", "1 p(a) b")
	s.wantBelow(t, "Z", "1 p(a) b p(Z)")
	if got := least.Table(s.System); len(got) != 4 {
		t.Errorf("%d rows of 4", len(got))
	}
}

// TestRowsRise (P15.2): by place, whichever row tells of it; none twice.
func TestRowsRise(t *testing.T) {
	s := shelfOf(t, []int{0, 1, 2, 3, 4}, 0, "A B C D E a b p(a) p(b) m(a)")
	s.lay(t, "m(a),b<A< a,p(b)<B< b,A,B<C< p(a),A<D< p(b),m(a),A,B,C,D<E<")
	s.wantBelow(t, "C", "a b p(b) m(a)")
	s.wantBelow(t, "D", "b p(a) m(a)")
	s.wantBelow(t, "E", "a b p(a) p(b) m(a)")
	// Var places are no measure of the order: those of a less number, or place, may be behind.
	s = shelfOf(t, []int{4, 3, 2, 1, 0}, 0, "A B C D E a b p(a) p(b) m(a)")
	s.lay(t, "m(a),b<E< a,p(b)<D< b,E,D<C< p(a),E<B< p(b),m(a),E,D,C,B<A<")
	s.wantBelow(t, "C", "a b p(b) m(a)")
	s.wantBelow(t, "B", "b p(a) m(a)")
	s.wantBelow(t, "A", "a b p(a) p(b) m(a)")
}

// TestRowsOfClasses (P15.2): of each variable that of its class's first one; and a Var in a Pre counts as its class's first one.
func TestRowsOfClasses(t *testing.T) {
	s := shelfOf(t, nil, 0, "A B C D E F a b p(a)")
	s.lay(t, "a<A< b<B< p(a),C,D<E< E<F< C=A D=C")
	for _, name := range []string{"A", "C", "D"} {
		s.wantBelow(t, name, "a")
	}
	s.wantBelow(t, "B", "b")
	s.wantBelow(t, "E", "a p(a)")
	s.wantBelow(t, "F", "a p(a)")
	// By ranks F is ahead of all, B behind: what is told of it is told of its class.
	s = shelfOf(t, []int{0, 9, 0, 8, 0, -1}, 0, "A B C D E F a b p(a)")
	s.lay(t, "a,F<A< b,A,D<B< p(a)<F< D=F E=D")
	for _, name := range []string{"D", "E", "F"} {
		s.wantBelow(t, name, "p(a)")
	}
	s.wantBelow(t, "A", "a p(a)")
	s.wantBelow(t, "B", "a b p(a)")
	s.wantBelow(t, "C", "")
}

// TestRowsWait (P15.2): only what stands in a Pre counts, not what waits.
func TestRowsWait(t *testing.T) {
	s := shelfOf(t, []int{1, 0}, 0, "X Y a")
	s.put(t, "a<X X<Y")
	s.wantBelow(t, "X", "")
	for range 2 {
		s.System, _ = solve.Once(s.System)
	}
	s.wantBelow(t, "X", "a")
	s.wantBelow(t, "Y", "") // which is ahead: X tells of it, so that a below Y waits
	s.run(t)
	s.wantBelow(t, "X", "a")
	s.wantBelow(t, "Y", "a")
	s.put(t, "b<X")
	s.wantBelow(t, "X", "a")
	s.run(t)
	s.wantBelow(t, "X", "a b")
	s.wantBelow(t, "Y", "a b")
}

// TestRowsAll (P15.2): right graphs by chance, each variable, against a second reading.
func TestRowsAll(t *testing.T) {
	r, many, joined := rand.New(rand.NewSource(2)), map[int]int{}, 0
	for range 1500 {
		s := chanceSystem(t, r)
		table := least.Table(s)
		if len(table) != len(s.G.U.V) {
			t.Fatalf("Table of %v: %d rows", s, len(table))
		}
		for v, row := range table {
			want := secondRow(s.A, s.G, v)
			if !slices.Equal(row, want) {
				t.Fatalf("Table of %v: %d: %v, not %v", s, v, row, want)
			}
			if got := least.Below(s, v); !slices.Equal(got, want) {
				t.Fatalf("Below(%v, %d): %v, not %v", s, v, got, want)
			}
			if many[len(want)]++; s.G.U.V[v] != v && len(want) > 0 {
				joined++
			}
		}
	}
	for n := range 5 {
		if many[n] < 100 {
			t.Error(many)
		}
	}
	if joined < 100 {
		t.Error(joined)
	}
}

// TestNobody (P15.2): a system without variables; who isn't there has nothing below.
func TestNobody(t *testing.T) {
	none, _ := solve.New(row(), []int{1, 2}, 4)
	for _, s := range []api.System{{}, none, shelfOf(t, nil, 0, "a p(a)").System} {
		if got := least.Table(s); len(got) > 0 {
			t.Errorf("Table of %v: %v", s, got)
		}
		if got := least.Below(s, 0); len(got) > 0 {
			t.Errorf("Below of %v: %v", s, got)
		}
	}
	s := shelfOf(t, nil, 0, "X Y a")
	s.lay(t, "a<X< X<Y<")
	for _, no := range append(ends(), -1, -2, 2, 3, s.at(t, "a")) {
		if got := least.Below(s.System, no); len(got) > 0 {
			t.Errorf("below %d: %v", no, got)
		}
	}
}

// TestBoth (P15.3): what is in both rows, wherever it stands.
func TestBoth(t *testing.T) {
	for _, x := range []struct{ a, b, want []int }{
		{nil, nil, nil},
		{nil, []int{1, 2}, nil},
		{[]int{}, []int{}, nil},
		{[]int{1}, []int{1}, []int{1}},
		{[]int{1}, []int{2}, nil},
		{[]int{1, 3, 5}, []int{2, 4, 6}, nil},
		{[]int{1, 2, 3}, []int{4, 5, 6}, nil},
		{[]int{1, 2, 3}, []int{3, 4, 5}, []int{3}},
		{[]int{1, 2, 3}, []int{1, 2, 3}, []int{1, 2, 3}},
		{[]int{0, 2, 5, 9}, []int{0, 1, 2, 3, 4, 9}, []int{0, 2, 9}},
		{[]int{7}, []int{1, 3, 5, 7, 9}, []int{7}},
		{[]int{1, 9}, []int{1, 3, 5, 7, 9}, []int{1, 9}},
		{[]int{math.MinInt, -3, 0, math.MaxInt}, []int{math.MinInt, -4, -3, 1, math.MaxInt}, []int{math.MinInt, -3, math.MaxInt}},
		{[]int{math.MaxInt}, []int{math.MinInt}, nil},
		{[]int{1, 1, 2, 2, 2}, []int{1, 1, 1, 2, 3}, []int{1, 2}}, // once, however often
	} {
		if got := least.Both(x.a, x.b); !slices.Equal(got, x.want) {
			t.Errorf("Both(%v, %v): %v, not %v", x.a, x.b, got, x.want)
		}
		if got := least.Both(x.b, x.a); !slices.Equal(got, x.want) {
			t.Errorf("Both(%v, %v): %v, not %v", x.b, x.a, got, x.want)
		}
	}
}

// TestBothAll (P15.3): rising rows by chance, against a second reading.
func TestBothAll(t *testing.T) {
	r, many := rand.New(rand.NewSource(3)), map[int]int{}
	for range 5000 {
		var a, b, want []int
		in := 1 + r.Intn(4)
		for n := -20; n < 20; n++ {
			isA, isB := r.Intn(in) == 0, r.Intn(3) == 0
			if isA {
				a = append(a, n)
			}
			if isB {
				b = append(b, n)
			}
			if isA && isB {
				want = append(want, n)
			}
		}
		if got := least.Both(a, b); !slices.Equal(got, want) {
			t.Fatalf("Both(%v, %v): %v, not %v", a, b, got, want)
		}
		many[min(len(want), 5)]++
	}
	for n := range 6 {
		if many[n] < 20 {
			t.Error(many)
		}
	}
}
