package cyc_test

import (
	"math"
	"math/rand"
	"slices"
	"testing"

	"tammy/api"
	"tammy/cyc"
	"tammy/hash"
	"tammy/ifg"
	"tammy/term"
)

// solve adds constraints, and all that comes of them; where a new one closes a circle, it is made one. It tells the graph, and what came to no variable.
func solve(a api.Keyed, g api.Graph, waits []api.Pair, depth int) (api.Graph, map[api.Pair]int) {
	was, others := map[api.Pair]int{}, map[api.Pair]int{}
	for ; len(waits) > 0; waits = waits[1:] {
		p := waits[0]
		if was[p]++; was[p] > 1 {
			continue
		}
		x, y := varOf(a, g, p[0]), varOf(a, g, p[1])
		if x < 0 && y < 0 {
			others[p]++
			continue
		}
		out, come, isNew := ifg.Add(a, g, p)
		g, waits = out, append(waits, come...)
		if isNew && x >= 0 && y >= 0 {
			g, come = cyc.Join(a, g, cyc.Path(a, g, y, x, depth))
			waits = append(waits, come...)
		}
	}
	return g, others
}

// reached is who is below whom: by the constraints, and through variables.
func reached(a api.Keyed, g api.Graph, l []api.Pair) map[api.Pair]int {
	out := map[api.Pair]int{}
	for _, p := range l {
		out[p]++
	}
	for v := range a.Keys {
		for x := range a.Keys {
			for y := range a.Keys {
				if varOf(a, g, v) >= 0 && out[api.Pair{x, v}] > 0 && out[api.Pair{v, y}] > 0 {
					out[api.Pair{x, y}]++
				}
			}
		}
	}
	return out
}

// TestCircles (P13.1 to P13.4): circles that are sought and made one, as constraints come, change nothing of what comes to those that are no variables, by any ranks, at any depth; of one class are none but who are below one another; and a way leads to whom one is below, and to nobody else.
func TestCircles(t *testing.T) {
	r, came, joined, ways := rand.New(rand.NewSource(4)), 0, 0, 0
	for range 800 {
		n := 1 + r.Intn(8)
		s := shelfOf(t, n)
		none := []int{s.at(t, "a"), s.at(t, "p(A)"), s.at(t, "p(a)"), s.at(t, "p(p(A))")}
		var l []api.Pair
		for range r.Intn(3 * n) {
			p := api.Pair{s.at(t, s.names[r.Intn(n)]), s.at(t, s.names[r.Intn(n)])}
			if r.Intn(3) == 0 {
				p[r.Intn(2)] = none[r.Intn(len(none))]
			}
			l = append(l, p)
		}
		depth := r.Intn(n + 1)
		g, others := solve(s.a, ifg.New(chanceRanks(r, n), n), l, depth)
		up := reached(s.a, g, l)
		for x := range s.a.Keys {
			for y := range s.a.Keys {
				p, v, w := api.Pair{x, y}, varOf(s.a, g, x), varOf(s.a, g, y)
				if v < 0 && w < 0 && (others[p] > 0) != (up[p] > 0) {
					t.Fatalf("%s, by %v, depth %d: %s comes %v", s.pairs(l), g.Ranks, depth, s.pairs([]api.Pair{p}), others[p] > 0)
				}
				if v < 0 || w < 0 || v == w {
					continue
				}
				if first(g, v) == first(g, w) {
					joined++
					if up[p] == 0 || up[api.Pair{y, x}] == 0 {
						t.Fatalf("%s, by %v, depth %d: %d and %d are one", s.pairs(l), g.Ranks, depth, v, w)
					}
				}
				way := cyc.Path(s.a, g, v, w, n)
				if (len(way) > 0) != (up[p] > 0) {
					t.Fatalf("%s, by %v, depth %d: from %d to %d: %v", s.pairs(l), g.Ranks, depth, v, w, way)
				}
				ways += min(1, len(way))
			}
		}
		came += len(others)
	}
	if came < 400 || joined < 500 || ways < 1000 {
		t.Error(came, joined, ways)
	}
}

// lists are all rows of numbers of a graph.
func lists(g api.Graph) [][]int {
	return slices.Concat([][]int{g.Ranks, g.U.V, g.U.Marks}, g.Pre, g.Suc)
}

// spare is a copy of a graph whose lists have room behind them, and what tells whether that, or the graph, is written into.
func spare(was api.Graph) (api.Graph, func() bool) {
	g := clone(was)
	for _, l := range []*[]int{&g.Ranks, &g.U.V, &g.U.Marks} {
		*l = append(*l, 91)[:len(*l)]
	}
	for _, rows := range []*[][]int{&g.Pre, &g.Suc} {
		for v, row := range *rows {
			(*rows)[v] = append(row, 91)[:len(row)]
		}
		*rows = append(*rows, nil)[:len(*rows)]
	}
	g.U.Notes = append(g.U.Notes, api.Note{At: 91})[:len(g.U.Notes)]
	return g, func() bool {
		n, m := len(g.U.Notes), len(g.Pre)
		is := equal(g, was) && g.U.Notes[:n+1][n].At == 91 && g.Pre[:m+1][m] == nil && g.Suc[:m+1][m] == nil
		for _, l := range lists(g) {
			is = is && l[:len(l)+1][len(l)] == 91
		}
		return is
	}
}

// wipe writes over all of a graph, and behind it.
func wipe(g api.Graph) {
	for _, l := range lists(g) {
		wipeRow(l)
	}
	for i := range g.U.Notes {
		g.U.Notes[i] = api.Note{At: -9, Was: -9}
	}
	for _, rows := range [][][]int{g.Pre, g.Suc} {
		for v := range rows {
			rows[v] = []int{-9}
		}
		_ = append(rows, []int{-8})
	}
	_ = append(g.U.Notes, api.Note{At: -8})
}

func wipeRow(l []int) {
	for i := range l {
		l[i] = -9
	}
	_ = append(l, -8)
}

// TestMemory (R3): what is handed in stays as it is, with the room behind it; what comes out shares nothing with it, nor with another answer, nor two of its lists with one another.
func TestMemory(t *testing.T) {
	r := rand.New(rand.NewSource(5))
	for range 200 {
		n := 2 + r.Intn(4)
		a := chanceStore(t, r, n)
		store := hash.Lay(a.Keys)
		keys := cloneRows(a.Keys)
		g, asItWas := spare(chanceGraph(r, a, n, 2))
		room := append(r.Perm(n), 91)
		row := room[:r.Intn(n+1)]
		rowWas, roomWas := slices.Clone(row), slices.Clone(room)
		for _, l := range [][]int{row, row[:0], row[:min(1, len(row))], nil} {
			one, come := cyc.Join(a, g, l)
			two, more := cyc.Join(a, g, l)
			was, comeWas := clone(one), slices.Clone(come)
			wipe(two)
			for i := range more {
				more[i] = api.Pair{-9, -9}
			}
			for _, x := range lists(one) {
				_ = append(x, -7)
			}
			if !equal(one, was) || !slices.Equal(come, comeWas) || !asItWas() {
				t.Fatalf("Join(%v, %v): an answer shares memory, or it writes into what it is given", g, l)
			}
		}
		x, y := r.Intn(n), r.Intn(n)
		for _, call := range []func() []int{func() []int { return cyc.Next(a, g, x) }, func() []int { return cyc.Path(a, g, x, y, n) }} {
			one := call()
			was := slices.Clone(one)
			wipeRow(call())
			if !slices.Equal(one, was) || !slices.Equal(call(), was) || !asItWas() {
				t.Fatalf("of %v: an answer shares memory, or a call writes into what it is given", g)
			}
		}
		if !slices.Equal(row, rowWas) || !slices.Equal(room, roomWas) || !slices.Equal(a.Slots, store) || !slices.EqualFunc(a.Keys, keys, slices.Equal[[]int]) {
			t.Fatal("what is handed in is written into")
		}
	}
}

// TestLater (R3, R4): an answer isn't changed by what is done with it later; the same is answered again.
func TestLater(t *testing.T) {
	r := rand.New(rand.NewSource(6))
	a := chanceStore(t, r, 8)
	g := chanceGraph(r, a, 8, 3)
	var all, copies []api.Graph
	for range 40 {
		x, y := r.Intn(8), r.Intn(8)
		next, path := cyc.Next(a, g, x), cyc.Path(a, g, x, y, 5)
		nextWas, pathWas := slices.Clone(next), slices.Clone(path)
		h, _ := cyc.Join(a, g, path)
		k, _ := cyc.Join(a, h, []int{y, x})
		if !slices.Equal(next, nextWas) || !slices.Equal(path, pathWas) || !slices.Equal(cyc.Next(a, g, x), nextWas) || !slices.Equal(cyc.Path(a, g, x, y, 5), pathWas) {
			t.Fatalf("%v, %v: %v, %v", nextWas, pathWas, next, path)
		}
		all, copies = append(all, g, h, k), append(copies, clone(g), clone(h), clone(k))
		if g = h; r.Intn(4) == 0 {
			g = chanceGraph(r, a, 8, 3)
		}
	}
	for i := range all {
		if !equal(all[i], copies[i]) {
			t.Errorf("%d: %v is %v", i, copies[i], all[i])
		}
	}
}

// plain is a store of n variables' terms, that of v at 2 and v, and a graph of them, without edges.
func plain(n int) (api.Keyed, api.Graph) {
	a := term.New()
	for v := range n {
		a.Keys = append(a.Keys, []int{api.Var, v, 0})
	}
	a.Slots = hash.Lay(a.Keys)
	return a, ifg.New(nil, n)
}

// TestLong (R1, P13.2): a long row of variables: so many steps that to look at all edges in each would take hours.
func TestLong(t *testing.T) {
	n := 200000
	a, g := plain(n)
	for v := 1; v < n; v++ {
		g.Pre[v] = []int{2 + v - 1}
	}
	g.Suc[n-1] = []int{2}
	for depth, want := range map[int]int{n - 2: 0, n - 1: n, n: n, math.MaxInt: n} {
		if got := cyc.Path(a, g, 0, n-1, depth); len(got) != want || want > 0 && (got[0] != 0 || got[n/2] != n/2 || got[n-1] != n-1) {
			t.Errorf("depth %d: %d", depth, len(got))
		}
	}
	if got := cyc.Path(a, g, 7, 6, math.MaxInt); len(got) != n || got[n-8] != n-1 || got[n-7] != 0 {
		t.Error(len(got))
	}
	if got := cyc.Next(a, g, n-1); !slices.Equal(got, []int{0}) {
		t.Error(got)
	}
}

// TestBroad (R1): all variables next to each other one: so many ways that going through all would never end.
func TestBroad(t *testing.T) {
	n := 800
	a, g := plain(n)
	var rest []int
	for v := range n {
		g.Pre[v], g.Suc[v] = slices.Clone(rest), slices.Clone(rest)
		rest = append(rest, 2+v)
	}
	g.Suc[n-1] = nil // nobody is next to the last one
	if !ifg.Right(a, g) {
		t.Fatal("not right")
	}
	if got := cyc.Next(a, g, 5); len(got) != n-1 || got[4] != 4 || got[5] != 6 {
		t.Error(len(got))
	}
	if got := cyc.Path(a, g, 5, n-1, 50); !slices.Equal(got, []int{5, n - 1}) {
		t.Error(got)
	}
	if got := cyc.Path(a, g, n-1, 5, math.MaxInt); len(got) > 0 {
		t.Error(got)
	}
	// Rows of ten, each of whom has all of the following row next to it: the least of each row is on the way.
	for v := range n {
		g.Pre[v], g.Suc[v] = nil, nil
		if from := v - v%10 - 10; from >= 0 {
			g.Pre[v] = rest[from : from+10]
		}
	}
	if got := cyc.Path(a, g, 9, n-1, n); len(got) != n/10 || got[1] != 10 || got[n/10-2] != n-20 || got[n/10-1] != n-1 {
		t.Error(got)
	}
}

// TestJoinMany (R1, P13.3): a long row, made one from either end.
func TestJoinMany(t *testing.T) {
	n := 300
	for _, turned := range []bool{false, true} {
		a, g := plain(n)
		row := make([]int, n)
		for v := range row {
			if row[v] = v; v > 0 {
				g.Pre[v] = []int{2 + v - 1}
			}
		}
		if turned {
			slices.Reverse(row)
		}
		got, come := cyc.Join(a, g, row)
		if len(come) != n-1 || !ifg.Right(a, got) || ifg.Rep(a, got, 2+n-1) != 2 || len(cyc.Next(a, got, n-1)) > 0 {
			t.Error(len(come), got.U.V)
		}
	}
}

// TestWrong (R1): of stores and graphs that aren't right nothing is promised but that each call ends, and none panics.
func TestWrong(t *testing.T) {
	r := rand.New(rand.NewSource(7))
	values := []int{math.MinInt, -1, 0, 0, 1, 1, 2, 2, 3, 3, 4, 5, 6, 7, math.MaxInt}
	value := func() int { return values[r.Intn(len(values))] }
	numbers := func(many int) []int {
		out := make([]int, r.Intn(many))
		for i := range out {
			out[i] = value()
		}
		return out
	}
	rows := func() [][]int {
		out := make([][]int, r.Intn(6))
		for i := range out {
			out[i] = numbers(6)
		}
		return out
	}
	for range 20000 {
		a, _ := plain(r.Intn(6))
		if r.Intn(3) == 0 {
			a.Keys = slices.Insert(a.Keys, r.Intn(len(a.Keys)), rows()...)
		}
		if r.Intn(3) == 0 {
			a.Slots = numbers(12)
		}
		g := api.Graph{Ranks: numbers(5), U: api.Cells{V: numbers(6), Marks: numbers(2)}, Pre: rows(), Suc: rows()}
		for range r.Intn(4) {
			g.U.Notes = append(g.U.Notes, api.Note{At: value(), Was: value()})
		}
		cyc.Next(a, g, value())
		cyc.Path(a, g, value(), value(), value())
		cyc.Join(a, g, numbers(7))
	}
}
