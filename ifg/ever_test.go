package ifg_test

import (
	"math"
	"math/rand"
	"slices"
	"testing"

	"tammy/api"
	"tammy/ifg"
)

// TestForEver (P12.4): whatever is added, made one, and laid behind, what comes out is right, and told by the second readings; what is new stands there, and isn't new again; all that comes of it goes through the variable of whose row it is.
func TestForEver(t *testing.T) {
	r := rand.New(rand.NewSource(5))
	for range 100 {
		n := 1 + r.Intn(8)
		a := chanceStore(t, r, n, 20)
		var ranks []int
		for range r.Intn(n + 2) {
			ranks = append(ranks, r.Intn(7)-3)
		}
		g := ifg.New(ranks, 1)
		for range 100 {
			switch many := len(g.U.V); r.Intn(12) {
			case 0:
				g = ifg.More(g, min(many+1, n))
			case 1:
				g, _ = wantOne(t, a, g, r.Intn(many), r.Intn(many))
			default:
				p := api.Pair{r.Intn(len(a.Keys)), r.Intn(len(a.Keys))}
				out, come, isNew := wantAdd(t, a, g, p)
				if _, _, again := ifg.Add(a, out, p); again || isNew != !equal(out, g) {
					t.Fatalf("Add(%v, %v, %v): new again, or new where nothing is", a.Keys, g, p)
				}
				if isNew {
					goThrough(t, a, g, p, come)
				}
				g = out
			}
			if !ifg.Right(a, g) || !secondRight(a, g) {
				t.Fatalf("%v isn't right", g)
			}
		}
	}
}

// goThrough: all that comes of a pair goes through one of its variables: that has the others on its other side.
func goThrough(t *testing.T, a api.Keyed, g api.Graph, p api.Pair, come []api.Pair) {
	t.Helper()
	x, y := secondRep(a, g, p[0]), secondRep(a, g, p[1])
	v, w := varOf(a, g, x), varOf(a, g, y)
	for _, q := range come {
		isPre := q[1] == y && v >= 0 && slices.ContainsFunc(g.Pre[v], func(at int) bool { return secondRep(a, g, at) == q[0] })
		isSuc := q[0] == x && w >= 0 && slices.ContainsFunc(g.Suc[w], func(at int) bool { return secondRep(a, g, at) == q[1] })
		if !isPre && !isSuc {
			t.Fatalf("of %v, in %v, comes %v", p, g, q)
		}
	}
}

// system is constraints between some variables, and what has no parts, that are solved by Add alone, and by One.
type system struct {
	a      api.Keyed
	g      api.Graph
	waits  []api.Pair
	others map[api.Pair]bool // what came, neither of which is a variable
}

// solve adds all that waits, and all that comes of it, each once.
func (s *system) solve() {
	was := map[api.Pair]bool{}
	for ; len(s.waits) > 0; s.waits = s.waits[1:] {
		p := s.waits[0]
		if was[p] {
			continue
		}
		was[p] = true
		if varOf(s.a, s.g, p[0]) < 0 && varOf(s.a, s.g, p[1]) < 0 {
			s.others[p] = true
		}
		g, come, _ := ifg.Add(s.a, s.g, p)
		s.g, s.waits = g, append(s.waits, come...)
	}
}

// reached is who is above each place: itself, and all to which rows of constraints lead, through variables.
func reached(a api.Keyed, g api.Graph, l []api.Pair) map[api.Pair]bool {
	out := map[api.Pair]bool{}
	for _, p := range l {
		out[p] = true
	}
	for v := range a.Keys {
		if varOf(a, g, v) < 0 {
			continue
		}
		for x := range a.Keys {
			for y := range a.Keys {
				if out[api.Pair{x, v}] && out[api.Pair{v, y}] {
					out[api.Pair{x, y}] = true
				}
			}
		}
	}
	return out
}

// TestClosure (P12.2 to P12.4): what comes in the end between those that are no variables is what their constraints lead to, by any ranks; variables of one circle may be made one at any time.
func TestClosure(t *testing.T) {
	r, came := rand.New(rand.NewSource(6)), 0
	for range 400 {
		n := 1 + r.Intn(6)
		sh := shelfOf(t, "a", "X", "Y", "b", "Z", "V", "p~1(a)", "p(a)", "W", "U", "p(b)")
		var ranks []int
		for range r.Intn(n + 1) {
			ranks = append(ranks, r.Intn(3)-1)
		}
		s := &system{a: sh.a, g: ifg.New(ranks, n), others: map[api.Pair]bool{}}
		var all []api.Pair
		for range r.Intn(30) {
			p := api.Pair{r.Intn(len(s.a.Keys)), placeOf(s.a, r.Intn(n))}
			if r.Intn(2) == 0 {
				p[0], p[1] = p[1], p[0]
			}
			if v, w := varOf(s.a, s.g, p[0]), varOf(s.a, s.g, p[1]); v < 0 && !secondMay(s.a, s.g, 0, w, p[0]) || w < 0 && !secondMay(s.a, s.g, 1, v, p[1]) {
				continue // these aren't laid
			}
			all, s.waits = append(all, p), append(s.waits, p)
		}
		up := reached(s.a, s.g, all)
		for len(s.waits) > 0 && r.Intn(3) > 0 {
			g, come, _ := ifg.Add(s.a, s.g, s.waits[0])
			s.g, s.waits = g, append(s.waits[1:], come...)
			x, y := placeOf(s.a, r.Intn(n)), placeOf(s.a, r.Intn(n))
			if up[api.Pair{x, y}] && up[api.Pair{y, x}] {
				g, come := ifg.One(s.a, s.g, varOf(s.a, s.g, x), varOf(s.a, s.g, y))
				s.g, s.waits = g, append(s.waits, come...)
			}
			for _, p := range s.waits {
				if varOf(s.a, s.g, p[0]) < 0 && varOf(s.a, s.g, p[1]) < 0 {
					s.others[p] = true
				}
			}
		}
		s.solve()
		came += len(s.others)
		for x := range s.a.Keys {
			for y := range s.a.Keys {
				if p := (api.Pair{x, y}); varOf(s.a, s.g, x) < 0 && varOf(s.a, s.g, y) < 0 && s.others[p] != up[p] {
					t.Fatalf("%s, by %v: %s comes %v, not %v", sh.pairs(all), ranks, sh.pairs([]api.Pair{p}), s.others[p], up[p])
				}
			}
		}
	}
	if came < 1000 {
		t.Errorf("only %d constraints came", came)
	}
}

// spare is a graph whose lists have room behind them, and what tells whether that or the graph is written into.
func spare(g api.Graph) (api.Graph, func() bool) {
	was := clone(g)
	numbers := func(l []int) []int { return append(slices.Clone(l), 91)[:len(l)] }
	rows := func(l [][]int) [][]int {
		var out [][]int
		for _, row := range l {
			out = append(out, numbers(row))
		}
		return append(out, []int{92})[:len(l)]
	}
	g = clone(g)
	g.Ranks, g.U.V, g.U.Marks, g.Pre, g.Suc = numbers(g.Ranks), numbers(g.U.V), numbers(g.U.Marks), rows(g.Pre), rows(g.Suc)
	g.U.Notes = append(g.U.Notes, api.Note{At: 93})[:len(g.U.Notes)]
	return g, func() bool {
		is := equal(g, was)
		for _, l := range slices.Concat([][]int{g.Ranks, g.U.V, g.U.Marks}, g.Pre, g.Suc) {
			is = is && l[:len(l)+1][len(l)] == 91
		}
		n := len(g.Pre)
		return is && g.Pre[:n+1][n][0] == 92 && g.Suc[:n+1][n][0] == 92 && g.U.Notes[:len(g.U.Notes)+1][len(g.U.Notes)].At == 93
	}
}

// wipe writes over all of a graph, and behind it.
func wipe(g api.Graph) {
	for _, l := range slices.Concat([][]int{g.Ranks, g.U.V, g.U.Marks}, g.Pre, g.Suc) {
		for i := range l {
			l[i] = -9
		}
		_ = append(l, -8)
	}
	for i := range g.U.Notes {
		g.U.Notes[i] = api.Note{At: -9, Was: -9}
	}
	_ = append(g.U.Notes, api.Note{At: -8})
	for _, rows := range [][][]int{g.Pre, g.Suc} {
		for i := range rows {
			rows[i] = []int{-9}
		}
		_ = append(rows, []int{-8})
	}
}

// grows: does no list of a graph grow into another one of it?
func grows(g api.Graph) bool {
	was := clone(g)
	for _, l := range slices.Concat([][]int{g.Ranks, g.U.V, g.U.Marks}, g.Pre, g.Suc) {
		_ = append(l, -7)
		if !equal(g, was) {
			return false
		}
	}
	return true
}

// TestMemory (R3): what is handed in stays as it is, with the room behind it; what comes out shares nothing with it, nor with another answer, nor two of its lists with one another.
func TestMemory(t *testing.T) {
	r := rand.New(rand.NewSource(7))
	for range 150 {
		n := 2 + r.Intn(3)
		a := chanceStore(t, r, n, 16)
		g, asItWas := spare(chanceGraph(r, a, n, 3))
		store := cloneStore(a)
		p, x, y := api.Pair{r.Intn(len(a.Keys)), placeOf(a, r.Intn(n))}, r.Intn(n), r.Intn(n)
		if r.Intn(2) == 0 {
			p[0], p[1] = p[1], p[0]
		}
		for i, call := range []func() (api.Graph, []api.Pair){
			func() (api.Graph, []api.Pair) { h, l, _ := ifg.Add(a, g, p); return h, l },
			func() (api.Graph, []api.Pair) { return ifg.One(a, g, x, y) },
			func() (api.Graph, []api.Pair) { return ifg.More(g, n+2), nil },
			func() (api.Graph, []api.Pair) { return ifg.More(g, n), nil },
			func() (api.Graph, []api.Pair) { return ifg.New(g.Ranks, n), nil },
			func() (api.Graph, []api.Pair) {
				ifg.Right(a, g)
				ifg.Rep(a, g, p[0])
				ifg.Same(g, g)
				return api.Graph{}, nil
			},
		} {
			one, l := call()
			two, m := call()
			was, pairs := clone(one), slices.Clone(l)
			wipe(two)
			for j := range m {
				m[j] = api.Pair{-9, -9}
			}
			if !grows(one) || !equal(one, was) || !slices.Equal(l, pairs) || !asItWas() {
				t.Fatalf("call %d, of %v: an answer shares memory, or a call writes into what it is given", i, g)
			}
		}
		if !slices.EqualFunc(a.Keys, store.Keys, slices.Equal[[]int]) || !slices.Equal(a.Slots, store.Slots) {
			t.Fatalf("%v is %v", store, a)
		}
	}
}

// TestLater (R3): an answer isn't changed by what is done with it later, nor one of two ways on by the other.
func TestLater(t *testing.T) {
	r := rand.New(rand.NewSource(8))
	a := chanceStore(t, r, 5, 20)
	g := ifg.New([]int{2, 0, 1}, 5)
	var all, copies []api.Graph
	for range 60 {
		p, q := api.Pair{r.Intn(len(a.Keys)), r.Intn(len(a.Keys))}, api.Pair{placeOf(a, r.Intn(5)), r.Intn(len(a.Keys))}
		x, _, _ := ifg.Add(a, g, p)
		y, _, _ := ifg.Add(a, g, q)
		z, _ := ifg.One(a, y, r.Intn(5), r.Intn(5))
		for _, h := range []api.Graph{x, y, z, ifg.More(y, 7)} {
			all, copies = append(all, h), append(copies, clone(h))
		}
		g = []api.Graph{x, y, y, y, x, z}[r.Intn(6)]
	}
	for i := range all {
		if !equal(all[i], copies[i]) {
			t.Errorf("%d: %v is %v", i, copies[i], all[i])
		}
	}
}

// TestMany (R1): a long row of variables, and one with long rows.
func TestMany(t *testing.T) {
	keys, n := [][]int(nil), 300
	for v := range n {
		keys = append(keys, []int{2, v, 0})
	}
	for sym := range n {
		keys = append(keys, []int{3, sym, 0})
	}
	a, g := laidStore(keys...), ifg.New(nil, n)
	var come []api.Pair
	for i := range n {
		g, come, _ = ifg.Add(a, g, api.Pair{2 + n + i, 2 + n - 1})
		if len(come) != 0 {
			t.Fatal(come)
		}
	}
	for i := range n - 1 {
		g, come, _ = ifg.Add(a, g, api.Pair{2 + n - 1, 2 + i})
		if len(come) != n || come[n-1] != (api.Pair{2 + 2*n - 1, 2 + i}) {
			t.Fatal(len(come))
		}
	}
	if g, come = ifg.One(a, g, n-1, 0); len(come) != n+n-1 || come[0] != (api.Pair{2 + n, 2}) || come[n] != (api.Pair{2, 2}) {
		t.Fatal(len(come))
	}
	for v := n - 2; v > 0; v-- {
		g, _ = ifg.One(a, g, v, v-1)
	}
	if !ifg.Right(a, g) || ifg.Rep(a, g, 2+n-2) != 2 {
		t.Error("not right")
	}
}

// TestWrong (R1): of stores and graphs that aren't right nothing is promised but that each call ends, and none panics.
func TestWrong(t *testing.T) {
	r := rand.New(rand.NewSource(9))
	values := []int{math.MinInt, -1, 0, 0, 1, 1, 2, 2, 3, 4, 5, 6, 7, math.MaxInt}
	numbers := func(many int) []int {
		out := make([]int, r.Intn(many))
		for i := range out {
			out[i] = values[r.Intn(len(values))]
		}
		return out
	}
	rows := func() [][]int {
		out := make([][]int, r.Intn(5))
		for i := range out {
			out[i] = numbers(5)
		}
		return out
	}
	for range 20000 {
		a := laidStore()
		if r.Intn(4) == 0 {
			a = api.Keyed{Slots: numbers(12)}
		}
		for range r.Intn(6) {
			a.Keys = append(a.Keys, numbers(6))
		}
		for v := range r.Intn(5) {
			a.Keys = append(a.Keys, []int{2, v, 0})
		}
		if r.Intn(2) == 0 {
			a.Slots = laidStore(a.Keys...).Slots
		}
		g := api.Graph{Ranks: numbers(5), U: api.Cells{V: numbers(5), Marks: numbers(2)}, Pre: rows(), Suc: rows()}
		for range r.Intn(4) {
			g.U.Notes = append(g.U.Notes, api.Note{At: values[r.Intn(len(values))], Was: r.Intn(5)})
		}
		x, y := values[r.Intn(len(values))], values[r.Intn(len(values))]
		ifg.Right(a, g)
		ifg.Rep(a, g, x)
		ifg.Add(a, g, api.Pair{x, y})
		ifg.One(a, g, x, y)
		ifg.More(g, min(x, 9))
		if !ifg.Same(g, clone(g)) {
			t.Fatalf("%v isn't the same as its copy", g)
		}
	}
}
