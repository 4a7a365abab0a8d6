package ifg_test

import (
	"math"
	"math/rand"
	"slices"
	"testing"

	"tammy/api"
	"tammy/ifg"
	"tammy/uf"
)

// TestNew (P12.1): so many variables, each a class that uf.Add laid, nothing about them; the ranks as they are.
func TestNew(t *testing.T) {
	s := kinds(t)
	for _, ranks := range someRanks() {
		var u api.Cells
		for n := range 4 {
			g := ifg.New(ranks, n)
			if want := (api.Graph{Ranks: ranks, U: u, Pre: make([][]int, n), Suc: make([][]int, n)}); !equal(g, want) || !ifg.Same(g, want) {
				t.Errorf("New(%v, %d): %v", ranks, n, g)
			}
			if !ifg.Right(s.a, g) || !slices.Equal(uf.Firsts(g.U), []int{0, 1, 2}[:n]) {
				t.Errorf("New(%v, %d) isn't right: %v", ranks, n, g)
			}
			u = uf.Add(u)
		}
	}
	if g := ifg.New([]int{3, 1}, 0); !equal(g, api.Graph{Ranks: []int{3, 1}}) {
		t.Errorf("no variable: %v", g)
	}
}

// TestMore (P12.1): variables behind, till there are so many; what was stays; as many, or more, are left alone.
func TestMore(t *testing.T) {
	s := kinds(t)
	g := ifg.New([]int{0, 4}, 2)
	g = s.add(t, g, "X < Y", true, "")
	g = s.add(t, g, "a < Y", true, "")
	g, _ = ifg.One(s.a, g, 0, 1)
	g = s.add(t, g, "X < b", true, "")
	for n := range 7 {
		want := clone(g)
		for v := 2; v < n; v++ {
			want.U = uf.Add(want.U)
			want.Pre, want.Suc = append(want.Pre, nil), append(want.Suc, nil)
		}
		if got := ifg.More(g, n); !equal(got, want) || !secondRight(s.a, got) {
			t.Errorf("More to %d: %v, not %v", n, got, want)
		}
	}
	for _, n := range []int{-1, -7, math.MinInt, math.MinInt + 1} {
		if got := ifg.More(g, n); !equal(got, g) {
			t.Errorf("More to %d: %v", n, got)
		}
	}
	if got := ifg.More(ifg.More(ifg.New(nil, 1), 2), 4); !equal(got, ifg.New(nil, 4)) {
		t.Errorf("step by step: %v", got)
	}
}

// TestManyVariables (R1): so many that a copy of all of them for each would take hours.
func TestManyVariables(t *testing.T) {
	n := 400000
	g := ifg.More(ifg.New(nil, n/2), n)
	if len(g.U.V) != n || len(g.U.Notes) != n || len(g.Pre) != n || len(g.Suc) != n || g.U.V[n-1] != n-1 || g.U.Notes[n-1] != (api.Note{At: -1}) {
		t.Error(len(g.U.V), len(g.U.Notes), len(g.Pre), len(g.Suc))
	}
	if !ifg.Right(laidStore(), g) {
		t.Error("not right")
	}
}

// TestRep (P12.1): of a Var the term of its class's first one; of all else, of no place, and of no variable, itself.
func TestRep(t *testing.T) {
	s := kinds(t)
	x, y, z := s.at(t, "X"), s.at(t, "Y"), s.at(t, "Z")
	g := ifg.New([]int{2, 1}, 3) // Z, Y, X
	is := func(g api.Graph, want map[int]int) {
		t.Helper()
		for at := -3; at < len(s.a.Keys)+3; at++ {
			rep, isOther := want[at]
			if !isOther {
				rep = at
			}
			if got := ifg.Rep(s.a, g, at); got != rep {
				t.Errorf("%s: the one for %d is %d, not %d", s.graph(g), at, got, rep)
			}
		}
		for _, at := range []int{math.MinInt, math.MaxInt} {
			if got := ifg.Rep(s.a, g, at); got != at {
				t.Errorf("%s: the one for %d is %d", s.graph(g), at, got)
			}
		}
	}
	is(g, nil)
	g, _ = ifg.One(s.a, g, 0, 1)
	is(g, map[int]int{x: y})
	g, _ = ifg.One(s.a, g, 2, 0)
	is(g, map[int]int{x: z, y: z})
	is(api.Graph{}, nil)
	is(ifg.New(nil, 1), nil)
}

// TestRepAll (P12.1): graphs by chance, at all places, against a second reading.
func TestRepAll(t *testing.T) {
	r := rand.New(rand.NewSource(1))
	for range 300 {
		n := r.Intn(7)
		a := chanceStore(t, r, n, 15)
		g := chanceGraph(r, a, n, 4)
		for at := -2; at < len(a.Keys)+2; at++ {
			if got, want := ifg.Rep(a, g, at), secondRep(a, g, at); got != want {
				t.Fatalf("Rep(%v, %v, %d): %d, not %d", a.Keys, g, at, got, want)
			}
		}
	}
}

// TestRight (P12.1): graphs that are right, and each way in which one isn't.
func TestRight(t *testing.T) {
	s := kinds(t)
	at := func(texts ...string) []int {
		var out []int
		for _, text := range texts {
			out = append(out, s.at(t, text))
		}
		slices.Sort(out)
		return out
	}
	none := make([][]int, 3)
	u := api.Cells{V: []int{0, 1, 2}}
	joined := api.Cells{V: []int{0, 1, 0}, Notes: []api.Note{{At: 2, Was: 2}}}
	for i, x := range []struct {
		g    api.Graph
		want bool
	}{
		{api.Graph{}, true},
		{api.Graph{Ranks: []int{1, 2}}, true},
		{api.Graph{U: u, Pre: none, Suc: none}, true},
		{api.Graph{U: joined, Pre: none, Suc: none}, true},
		{api.Graph{U: u, Pre: [][]int{at("a", "1", "p(X)"), at("X", "b"), at("X", "Y", "c(X,Z)")}, Suc: none}, true},
		{api.Graph{U: u, Pre: none, Suc: [][]int{at("a", "0", "p(V)"), at("X", "p~1(X)"), at("X", "Y", "c~2(Z)")}}, true},
		{api.Graph{U: u, Pre: [][]int{nil, nil, at("X")}, Suc: [][]int{nil, nil, at("X")}}, true}, // in both
		{api.Graph{U: joined, Pre: [][]int{at("a"), at("X"), {}}, Suc: [][]int{at("a"), at("X"), {}}}, true},
		{api.Graph{U: api.Cells{V: []int{0, 0, 2}}, Pre: [][]int{nil, nil, at("Y")}, Suc: none}, true},        // Y is none's first one
		{api.Graph{Ranks: []int{1, 2, 0}, U: u, Pre: [][]int{at("Z"), at("X", "Z"), nil}, Suc: none}, true},   // by ranks Z, X, Y
		{api.Graph{Ranks: []int{1, 2, 0}, U: u, Pre: [][]int{nil, nil, at("X")}, Suc: none}, false},           // X is behind Z
		{api.Graph{Ranks: []int{1, 2, 0}, U: u, Pre: none, Suc: [][]int{at("Y"), nil, nil}}, false},           // Y is behind X
		{api.Graph{Ranks: []int{1, 2, 0}, U: api.Cells{V: []int{0, 1, 0}}, Pre: none, Suc: none}, false},      // no classes by these ranks
		{api.Graph{U: api.Cells{V: []int{1, 1, 2}}, Pre: none, Suc: none}, false},                             // nor by none
		{api.Graph{U: api.Cells{V: []int{0, 1, 3}}, Pre: none, Suc: none}, false},                             // no place
		{api.Graph{U: api.Cells{V: []int{0, 1, 2}, Notes: []api.Note{{At: 3}}}, Pre: none, Suc: none}, false}, // a note that can't be taken back
		{api.Graph{U: api.Cells{V: []int{0, 1, 2}, Marks: []int{0}}, Pre: none, Suc: none}, false},            // a mark
		{api.Graph{U: api.Cells{Marks: []int{0}}}, false},
		{api.Graph{U: u, Pre: none[:2], Suc: none}, false},
		{api.Graph{U: u, Pre: none, Suc: none[:2]}, false},
		{api.Graph{U: u, Pre: make([][]int, 4), Suc: none}, false},
		{api.Graph{U: u, Pre: none, Suc: make([][]int, 4)}, false},
		{api.Graph{U: u}, false},
		{api.Graph{Pre: none, Suc: none}, false},
		{api.Graph{U: joined, Pre: [][]int{nil, nil, at("a")}, Suc: none}, false}, // a row of who isn't first
		{api.Graph{U: joined, Pre: none, Suc: [][]int{nil, nil, at("a")}}, false},
		{api.Graph{U: joined, Pre: [][]int{nil, nil, at("X")}, Suc: none}, false},
		{api.Graph{U: u, Pre: [][]int{nil, {at("b")[0], at("a")[0]}, nil}, Suc: none}, false}, // it falls
		{api.Graph{U: u, Pre: none, Suc: [][]int{nil, {at("b")[0], at("a")[0]}, nil}}, false},
		{api.Graph{U: u, Pre: [][]int{nil, {at("a")[0], at("a")[0]}, nil}, Suc: none}, false}, // twice
		{api.Graph{U: u, Pre: none, Suc: [][]int{nil, {at("a")[0], at("a")[0]}, nil}}, false},
	} {
		if got := ifg.Right(s.a, x.g); got != x.want {
			t.Errorf("%d: Right of %v is %v", i, x.g, got)
		}
	}
}

// TestRightPlaces (P12.1): each place, of each kind of term, and none, in each row, by all orders of the variables.
func TestRightPlaces(t *testing.T) {
	s := kinds(t)
	places := []int{math.MinInt, math.MaxInt}
	for at := -2; at < len(s.a.Keys)+2; at++ {
		places = append(places, at)
	}
	count := map[bool]int{}
	for _, ranks := range someRanks() {
		for v := range 3 {
			for which := range 2 {
				for _, at := range places {
					g := laid(ifg.New(ranks, 3), which, v, at)
					got := ifg.Right(s.a, g)
					if got != secondMay(s.a, g, which, v, at) {
						t.Fatalf("Right of %v is %v", g, got)
					}
					count[got]++
					for _, more := range places {
						g := laid(g, which, v, more)
						if got := ifg.Right(s.a, g); got != secondRight(s.a, g) {
							t.Fatalf("Right of %v is %v", g, got)
						}
					}
				}
			}
		}
	}
	if count[true] == 0 || count[false] == 0 {
		t.Error(count)
	}
}

// TestRightChance (P12.1): graphs by chance, and with one thing other than it was, against a second reading.
func TestRightChance(t *testing.T) {
	r := rand.New(rand.NewSource(2))
	count := map[bool]int{}
	for range 4000 {
		n := 1 + r.Intn(6)
		a := chanceStore(t, r, n, 15)
		g := chanceGraph(r, a, n, 4)
		if !secondRight(a, g) || !ifg.Right(a, g) {
			t.Fatalf("Right of %v is %v", g, ifg.Right(a, g))
		}
		x := clone(g)
		x.U.Notes = nil // else a cell could be other than notes tell: nobody asks for that
		v, w, l := r.Intn(n), r.Intn(n+2)-1, [][][]int{x.Pre, x.Suc}[r.Intn(2)]
		switch r.Intn(7) {
		case 0:
			x.U.V[v] = w
		case 1:
			l[v] = append(l[v], r.Intn(len(a.Keys)+2)-1)
		case 2:
			l[v] = append([]int{r.Intn(len(a.Keys)+2) - 1}, l[v]...)
		case 3:
			slices.Reverse(l[v])
		case 4:
			x.Ranks = append([]int{r.Intn(5) - 2}, x.Ranks...)
		case 5:
			x.Pre = x.Pre[:v]
		case 6:
			x.U.Marks = make([]int, r.Intn(2))
		}
		got := ifg.Right(a, x)
		if got != secondRight(a, x) {
			t.Fatalf("Right(%v, %v) is %v", a.Keys, x, got)
		}
		count[got]++
	}
	if count[true] < 100 || count[false] < 100 {
		t.Error(count)
	}
}

// TestSame (P12.1): all of it counts, and nothing else.
func TestSame(t *testing.T) {
	make1 := func() api.Graph {
		return api.Graph{Ranks: []int{1}, U: api.Cells{V: []int{0, 0}, Notes: []api.Note{{At: -1}}, Marks: []int{0}}, Pre: [][]int{{3}, nil}, Suc: [][]int{{4, 5}, nil}}
	}
	for i, change := range []func(g *api.Graph){
		func(g *api.Graph) { g.Ranks[0] = 2 },
		func(g *api.Graph) { g.Ranks = nil },
		func(g *api.Graph) { g.Ranks = append(g.Ranks, 0) },
		func(g *api.Graph) { g.U.V[1] = 1 },
		func(g *api.Graph) { g.U.V = g.U.V[:1] },
		func(g *api.Graph) { g.U.Notes[0].At = 0 },
		func(g *api.Graph) { g.U.Notes[0].Was = 1 },
		func(g *api.Graph) { g.U.Notes = nil },
		func(g *api.Graph) { g.U.Marks[0] = 1 },
		func(g *api.Graph) { g.U.Marks = nil },
		func(g *api.Graph) { g.Pre[0][0] = 4 },
		func(g *api.Graph) { g.Pre[0] = nil },
		func(g *api.Graph) { g.Pre[1] = []int{3} },
		func(g *api.Graph) { g.Pre[0], g.Pre[1] = g.Pre[1], g.Pre[0] },
		func(g *api.Graph) { g.Pre = g.Pre[:1] },
		func(g *api.Graph) { g.Pre = append(g.Pre, nil) },
		func(g *api.Graph) { g.Suc[0][1] = 6 },
		func(g *api.Graph) { g.Suc[0] = g.Suc[0][:1] },
		func(g *api.Graph) { g.Suc = g.Suc[:1] },
		func(g *api.Graph) { g.Suc = append(g.Suc, nil) },
		func(g *api.Graph) { g.Pre, g.Suc = g.Suc, g.Pre },
	} {
		x, y := make1(), make1()
		change(&y)
		if ifg.Same(x, y) || ifg.Same(y, x) || !ifg.Same(y, clone(y)) {
			t.Errorf("%d: %v and %v", i, x, y)
		}
	}
	if !ifg.Same(make1(), make1()) {
		t.Error("not the same")
	}
	empty := api.Graph{Ranks: []int{}, U: api.Cells{V: []int{}, Notes: []api.Note{}, Marks: []int{}}, Pre: [][]int{}, Suc: [][]int{}}
	if !ifg.Same(api.Graph{}, empty) || !ifg.Same(api.Graph{Pre: [][]int{nil}, Suc: [][]int{{}}}, api.Graph{Pre: [][]int{{}}, Suc: [][]int{nil}}) {
		t.Error("a list without elements isn't the same as none")
	}
}
