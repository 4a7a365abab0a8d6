package solve_test

import (
	"math"
	"math/rand"
	"slices"
	"testing"

	"tammy/api"
	"tammy/hash"
	"tammy/ifg"
	"tammy/solve"
	"tammy/term"
)

// chanceSystem is a system by chance, of n variables, with all these constraints put.
func chanceSystem(t *testing.T, ranks []int, depth int, a api.Keyed, all []api.Pair) api.System {
	t.Helper()
	s, e := solve.New(row(), ranks, depth)
	if e != api.OK {
		t.Fatalf("New: %d", e)
	}
	s = solve.With(s, a)
	for _, p := range all {
		s = solve.Put(s, p[0], p[1])
	}
	return s
}

// TestOnceAll (P14.2, P14.3): systems by chance, each step against a second reading; what comes out is right.
func TestOnceAll(t *testing.T) {
	r := rand.New(rand.NewSource(1))
	steps, joined := 0, 0
	for range 400 {
		n := r.Intn(6)
		a := chanceTerms(t, r, row(), term.New(), n, 1+r.Intn(10))
		s := chanceSystem(t, chanceRanks(r, n), r.Intn(5), a, chancePairs(r, row(), a, r.Intn(25)))
		first, many := s, 0
		for {
			want, wantDid := secondOnce(s)
			got, did := solve.Once(s)
			if did != wantDid || told(got) != told(want) || !right(got) {
				t.Fatalf("Once of %v: %v, %v, not %v, %v", s, got, did, want, wantDid)
			}
			if !did {
				break
			}
			s, many = got, many+1
		}
		if got, e := solve.Run(first, many); e != api.OK || told(got) != told(s) {
			t.Fatalf("Run of %v: %d, %v, not %v", first, e, got, s)
		}
		for v, cell := range s.G.U.V {
			if cell != v {
				joined++
			}
		}
		steps += many
	}
	if steps < 3000 || joined < 50 {
		t.Errorf("only %d steps, and %d joined", steps, joined)
	}
}

// TestClosure (P14.4): when nothing waits, the clashes are those of the closure, by any ranks and depths; no constraint is taken that isn't in it but for who are one, and none more often than once.
func TestClosure(t *testing.T) {
	r := rand.New(rand.NewSource(2))
	clashed, clear, joined := 0, 0, 0
	for range 400 {
		n := r.Intn(7)
		a := chanceTerms(t, r, row(), term.New(), n, 1+r.Intn(10))
		all := chancePairs(r, row(), a, r.Intn(16))
		pairs, clashes := closure(row(), a, all)
		for range 5 {
			ranks, depth := chanceRanks(r, n), []int{0, 1, 2, 3, 50}[r.Intn(5)]
			r.Shuffle(len(all), func(i, j int) { all[i], all[j] = all[j], all[i] })
			s, e := solve.Run(chanceSystem(t, ranks, depth, a, all), len(a.Keys)*len(a.Keys))
			if e != api.OK || !slices.Equal(s.Clash, clashes) || !right(s) {
				t.Fatalf("%v of %v, by %v, %d: %d, %v, not %v", all, a.Keys, ranks, depth, e, s.Clash, clashes)
			}
			if s.Steps > len(a.Keys)*len(a.Keys) || s.Steps != len(s.W.Seen.Keys) {
				t.Fatalf("%v of %v: %d steps, %d seen", all, a.Keys, s.Steps, len(s.W.Seen.Keys))
			}
			for _, key := range s.W.Seen.Keys {
				if p := api.Pair(key); p[0] != p[1] && !pairs[p] {
					t.Fatalf("%v of %v, by %v, %d: %v isn't in the closure", all, a.Keys, ranks, depth, p)
				}
			}
			for v, cell := range s.G.U.V {
				if cell != v {
					joined++
				}
			}
		}
		if len(clashes) > 0 {
			clashed++
		} else if len(pairs) > 10 {
			clear++
		}
	}
	if clashed < 100 || clear < 30 || joined < 100 {
		t.Errorf("only %d with clashes, %d without, %d joined", clashed, clear, joined)
	}
}

// TestClosureOn (P14.4): the same, where terms and constraints come one after the other, between steps.
func TestClosureOn(t *testing.T) {
	r := rand.New(rand.NewSource(3))
	clashed := 0
	for range 150 {
		s, _ := solve.New(row(), chanceRanks(r, 8), r.Intn(4))
		n, all := 0, []api.Pair(nil)
		for range 1 + r.Intn(5) {
			more := r.Intn(3)
			a := s.A
			for v := n; v < n+more; v++ {
				a, _, _ = term.Put(row(), a, api.Term{Kind: api.Var, Sym: v}, noLimit)
			}
			n += more
			s = solve.With(s, chanceTerms(t, r, row(), a, 0, r.Intn(4)))
			for _, p := range chancePairs(r, row(), s.A, r.Intn(5)) {
				s, all = solve.Put(s, p[0], p[1]), append(all, p)
			}
			for range r.Intn(10) {
				s, _ = solve.Once(s)
			}
			s.Depth = r.Intn(4) // another one may be told at any time
		}
		s, e := solve.Run(s, noLimit)
		_, clashes := closure(row(), s.A, all)
		if e != api.OK || !slices.Equal(s.Clash, clashes) || !right(s) || len(s.W.L) > 0 {
			t.Fatalf("%v of %v: %d, %v, not %v", all, s.A.Keys, e, s.Clash, clashes)
		}
		if len(clashes) > 0 {
			clashed++
		}
	}
	if clashed < 50 {
		t.Errorf("only %d with clashes", clashed)
	}
}

// TestMemory (R3): what is handed in stays as it is, with the room behind it; what comes out shares nothing with it, and no two lists of it share anything.
func TestMemory(t *testing.T) {
	r := rand.New(rand.NewSource(4))
	for range 60 {
		n := 1 + r.Intn(5)
		a := chanceTerms(t, r, row(), term.New(), n, 6)
		s := chanceSystem(t, chanceRanks(r, n), 3, a, chancePairs(r, row(), a, 12))
		for range r.Intn(20) {
			s, _ = solve.Once(s)
		}
		s = roomySystem(s)
		l, ranks := append(row(), api.Sig{Name: "z"})[:6], append([]int{1, 2}, 3)[:2]
		more := roomySystem(api.System{A: chanceTerms(t, r, row(), s.A, 0, 4)}).A
		was := whole(s, l, ranks, more)
		at := r.Intn(len(a.Keys))
		for i, call := range []func() any{
			func() any { out, _ := solve.New(l, ranks, 1); return out },
			func() any { out, _ := solve.New(l, ranks, -1); return out },
			func() any { return solve.With(s, more) },
			func() any { return solve.With(s, s.A) },
			func() any { return solve.Put(s, at, 1) },
			func() any { out, _ := solve.Once(s); return out },
			func() any { out, _ := solve.Run(s, noLimit); return out },
			func() any { out, _ := solve.Run(s, 0); return out },
			func() any { out, _ := solve.Run(s, 2); return out },
			func() any { return solve.Same(s, s) },
		} {
			if answer := call(); !isNew(answer, s, l, ranks, more) || whole(s, l, ranks, more) != was {
				t.Fatalf("call %d, of %v: an answer shares memory, or a call writes into what it is given", i, s)
			}
		}
	}
}

// TestMany (R1, P14.4): a long row of variables, a long circle, and many terms, by each order and depth.
func TestMany(t *testing.T) {
	n := 60
	for _, depth := range []int{0, 1, 50} {
		for _, turned := range []bool{false, true} {
			a, ranks := term.New(), []int(nil)
			l := append(row(), api.Sig{Name: "q", Args: "+"})
			put := func(x api.Term) (at int) {
				a, at, _ = term.Put(l, a, x, noLimit)
				return at
			}
			for v := range n {
				put(api.Term{Kind: api.Var, Sym: v})
				if ranks = append(ranks, v); turned {
					ranks[v] = -v
				}
			}
			s, _ := solve.New(l, ranks, depth)
			deep := put(api.Term{Kind: api.Con})
			for range 20 {
				deep = put(api.Term{Kind: api.Con, Sym: 2, Args: []int{deep}})
			}
			s = solve.With(s, a)
			for v := range n {
				s = solve.Put(s, 2+v, 2+(v+1)%n)
			}
			for at := 2 + n; at <= deep; at++ {
				s = solve.Put(s, at, 2+at%n)
			}
			s = solve.Put(s, 2+n/2, 2+n) // a
			s, e := solve.Run(s, len(s.A.Keys)*len(s.A.Keys))
			// All but a itself are no a.
			if e != api.OK || len(s.Clash) != 20 || s.Clash[19] != (api.Pair{deep, 2 + n}) || !right(s) {
				t.Errorf("depth %d: %d, %v", depth, e, s.Clash)
			}
			if depth == 0 && slices.ContainsFunc(s.G.U.Notes, func(x api.Note) bool { return x.At >= 0 }) {
				t.Errorf("joined: %v", s.G.U)
			}
		}
	}
}

// TestWrong (R1): of systems that aren't such nothing is promised but that each call ends, and none panics.
func TestWrong(t *testing.T) {
	r := rand.New(rand.NewSource(5))
	values := []int{math.MinInt, -1, 0, 0, 1, 1, 2, 2, 3, 3, 4, 5, 6, 7, math.MaxInt}
	value := func() int { return values[r.Intn(len(values))] }
	numbers := func(many int) []int {
		out := make([]int, r.Intn(many))
		for i := range out {
			out[i] = value()
		}
		return out
	}
	rows := func() [][]int {
		out := make([][]int, r.Intn(6))
		for i := range out {
			out[i] = numbers(6)
		}
		return out
	}
	pairs := func() []api.Pair {
		out := make([]api.Pair, r.Intn(5))
		for i := range out {
			out[i] = api.Pair{value(), value()}
		}
		return out
	}
	store := func() api.Keyed {
		a := chanceTerms(t, r, row(), term.New(), r.Intn(5), r.Intn(5))
		if r.Intn(3) == 0 {
			a.Keys = slices.Insert(a.Keys, r.Intn(len(a.Keys)), rows()...)
		}
		if r.Intn(3) == 0 {
			a.Slots = numbers(12)
		} else {
			a.Slots = hash.Lay(a.Keys)
		}
		return a
	}
	for range 10000 {
		s := api.System{Sigs: row()[:r.Intn(7)], A: store(), Clash: pairs(), Steps: value(), Depth: value()}
		s.G = api.Graph{Ranks: numbers(5), U: api.Cells{V: numbers(6), Marks: numbers(2)}, Pre: rows(), Suc: rows()}
		if r.Intn(2) == 0 {
			s.G = ifg.New(numbers(4), r.Intn(6))
		}
		s.W = api.Queue{L: pairs(), Seen: api.Keyed{Keys: rows(), Slots: numbers(12)}}
		if r.Intn(8) == 0 {
			s.Sigs = append(s.Sigs, api.Sig{Args: "?"})
		}
		solve.New(s.Sigs, s.G.Ranks, s.Depth)
		with := solve.With(s, store())
		solve.Once(solve.Put(with, value(), value()))
		for _, x := range []api.System{s, with, solve.Put(s, value(), value())} {
			solve.Once(x)
			solve.Run(x, value())
			if !solve.Same(x, roomySystem(x)) {
				t.Fatalf("%v isn't the same as its copy", x)
			}
		}
	}
	// No number of a Var alone makes the graph great.
	for _, v := range []int{1 << 40, math.MaxInt, math.MaxInt - 1} {
		a, _, _ := term.Put(nil, term.New(), api.Term{Kind: api.Var, Sym: v}, noLimit)
		if s := solve.With(api.System{}, a); len(s.G.U.V) > len(a.Keys) {
			t.Errorf("%d variables", len(s.G.U.V))
		}
	}
}
