package least_test

import (
	"fmt"
	"math"
	"math/rand"
	"reflect"
	"slices"
	"strings"
	"testing"

	"tammy/api"
	"tammy/least"
	"tammy/solve"
	"tammy/term"
)

// wantClosed: is below each variable what is below it in the closure of these constraints?
func wantClosed(t *testing.T, s api.System, all []api.Pair, rows [][]int) {
	t.Helper()
	if got := least.Table(s); !same(got, rows) {
		t.Fatalf("%v of %v, by %v, %d: Table is %v, not %v", all, s.A.Keys, s.G.Ranks, s.Depth, got, rows)
	}
	for v, row := range rows {
		if got := least.Below(s, v); !slices.Equal(got, row) {
			t.Fatalf("%v of %v, by %v, %d: Below %d is %v, not %v", all, s.A.Keys, s.G.Ranks, s.Depth, v, got, row)
		}
	}
}

// isFirst: is each variable a class of its own?
func isFirst(g api.Graph) bool {
	return !slices.ContainsFunc(g.U.Notes, func(x api.Note) bool { return x.At >= 0 })
}

// TestClosure (P15.4): when nothing waits, what is below each variable is what the closure tells, by any ranks, and depths.
func TestClosure(t *testing.T) {
	r := rand.New(rand.NewSource(4))
	filled, joined := 0, 0
	for range 1500 {
		n := r.Intn(8)
		a := chanceTerms(t, r, term.New(), 0, n, 1+r.Intn(10))
		all := chancePairs(r, a, r.Intn(18))
		rows := closed(row(), a, all, n)
		for range 6 {
			s, _ := solve.New(row(), chanceRanks(r, n), []int{0, 1, 2, 3, 50}[r.Intn(5)])
			s = solve.With(s, a)
			r.Shuffle(len(all), func(i, j int) { all[i], all[j] = all[j], all[i] })
			for _, p := range all {
				s = solve.Put(s, p[0], p[1])
			}
			s, _ = solve.Run(s, noLimit)
			wantClosed(t, s, all, rows)
			if !isFirst(s.G) {
				joined++
			}
		}
		for _, row := range rows {
			filled += len(row)
		}
	}
	if filled < 2000 || joined < 1500 {
		t.Error(filled, joined)
	}
}

// TestClosureOn (P15.4): the same, where terms, constraints and another Depth come one after the other, between steps; each time that nothing waits.
func TestClosureOn(t *testing.T) {
	r := rand.New(rand.NewSource(5))
	filled, joined := 0, 0
	for range 1000 {
		s, _ := solve.New(row(), chanceRanks(r, 8), r.Intn(4))
		n, all := 0, []api.Pair(nil)
		for range 1 + r.Intn(6) {
			more := r.Intn(3)
			s = solve.With(s, chanceTerms(t, r, s.A, n, n+more, r.Intn(4)))
			n += more
			for _, p := range chancePairs(r, s.A, r.Intn(6)) {
				s, all = solve.Put(s, p[0], p[1]), append(all, p)
			}
			for range r.Intn(10) {
				s, _ = solve.Once(s)
			}
			s.Depth = r.Intn(4)
			if r.Intn(2) == 0 {
				continue
			}
			s, _ = solve.Run(s, noLimit)
			rows := closed(row(), s.A, all, n)
			wantClosed(t, s, all, rows)
			for _, row := range rows {
				filled += len(row)
			}
			if !isFirst(s.G) {
				joined++
			}
		}
	}
	if filled < 1500 || joined < 150 {
		t.Error(filled, joined)
	}
}

// TestKinds (P15.4): what comes through each kind of term, by each order of the variables, with circles made one, or not.
func TestKinds(t *testing.T) {
	for i, x := range []struct {
		cons  string
		below map[string]string
	}{
		{"X<Y Y<Z Z<V", nil},
		{"a|b<X X<Y", map[string]string{"X": "a b", "Y": "a b"}},
		{"a<X&Y 1<Y&Z", map[string]string{"X": "a", "Y": "1 a", "Z": "1"}},
		{"0<X X<0", nil},
		{"c(X,Y)<Z a<X b<Y Z<c(V,X)", map[string]string{"X": "a", "Y": "a b", "Z": "c(X,Y)", "V": "a"}},
		{"p(a)<X X<p~1(Y) p(b)<X m(a)<X Y<Z", map[string]string{"X": "m(a) p(a) p(b)", "Y": "a b", "Z": "a b"}},
		{"c(a,Y)|p(b)<X X<c~2(Z) X<c~1(V) a|b<Z", map[string]string{"X": "c(a,Y) p(b)", "Y": "a b", "Z": "a b", "V": "a"}},
		{"e(X)<Z Z<e(Y) a<X b<Y", map[string]string{"X": "a b", "Y": "a b", "Z": "e(X)"}},
		{"1<X X<p~1(Y) X<m~1(Z) a<V V<Z", map[string]string{"X": "1", "Y": "1", "Z": "a", "V": "a"}},
		{"p(p(a))<X X<p~1(p~1(Y))", map[string]string{"X": "p(p(a))", "Y": "a"}},
		{"p(a)<X X<p(Y&Z) m(Z)<V V<m(X|Y)", map[string]string{"X": "p(a)", "Y": "a", "Z": "a p(a)", "V": "m(Z)"}},
		{"a<X X<Y Y<Z Z<X b<Z Y<V", map[string]string{"X": "a b", "Y": "a b", "Z": "a b", "V": "a b"}},
		{"a<X X<Y Y<X b<Z Z<V V<Z X<Z", map[string]string{"X": "a", "Y": "a", "Z": "a b", "V": "a b"}},
		{"a<X X<b X<Y", map[string]string{"X": "a", "Y": "a"}}, // a clash hides nothing
	} {
		for _, ranks := range [][]int{nil, {4, 3, 2, 1}, {2, 0, 3, 1}, {0, 3, 0, -1}} {
			for _, depth := range []int{0, 1, 50} {
				s := shelfOf(t, ranks, depth, "")
				s.put(t, x.cons)
				s.run(t)
				for v, row := range least.Table(s.System) {
					texts := strings.Fields(s.texts(row))
					slices.Sort(texts)
					want(t, fmt.Sprintf("%d, by %v, %d: %s", i, ranks, depth, s.names[v]), strings.Join(texts, " "), x.below[s.names[v]])
				}
			}
		}
	}
}

// eachSlice goes through all slices in a value, deep ones too.
func eachSlice(v reflect.Value, do func(slice reflect.Value)) {
	switch v.Kind() {
	case reflect.Struct:
		for i := range v.NumField() {
			eachSlice(v.Field(i), do)
		}
	case reflect.Slice:
		do(v)
		for i := range v.Len() {
			eachSlice(v.Index(i), do)
		}
	}
}

// roomy is a copy of a value, all slices of which have room behind them.
func roomy(v reflect.Value) reflect.Value {
	out := reflect.New(v.Type()).Elem()
	switch v.Kind() {
	case reflect.Struct:
		for i := range v.NumField() {
			out.Field(i).Set(roomy(v.Field(i)))
		}
	case reflect.Slice:
		out.Set(reflect.MakeSlice(v.Type(), v.Len(), v.Len()+2))
		for i := range v.Len() {
			out.Index(i).Set(roomy(v.Index(i)))
		}
	default:
		out.Set(v)
	}
	return out
}

// whole is all that a value has, with the room behind each list.
func whole(value any) string {
	out := ""
	eachSlice(reflect.ValueOf(value), func(l reflect.Value) { out += fmt.Sprintf("%d %v;", l.Len(), l.Slice(0, l.Cap())) })
	return out
}

// wipe writes another number over each of all rows, with the room behind it, and tells whether each has its own then: none shares memory with another.
func wipe(rows [][]int) bool {
	for i, row := range rows {
		for k := range row[:cap(row)] {
			row[:cap(row)][k] = -9 - i
		}
	}
	for i, row := range rows {
		if slices.ContainsFunc(row[:cap(row)], func(n int) bool { return n != -9-i }) {
			return false
		}
	}
	clear(rows)
	return true
}

// TestMemory (R3, R4): what is handed in stays as it is, with the room behind it; what comes out shares nothing with it, nor two rows with one another; the same is answered again.
func TestMemory(t *testing.T) {
	r := rand.New(rand.NewSource(6))
	for range 300 {
		s := roomy(reflect.ValueOf(chanceSystem(t, r))).Interface().(api.System)
		was := whole(s)
		v, a := r.Intn(len(s.G.U.V)), []int{1, 2, 3, 9}
		for i, call := range []func() [][]int{
			func() [][]int { return least.Table(s) },
			func() [][]int { return [][]int{least.Below(s, v), least.Below(s, v)} },
			func() [][]int { return [][]int{least.Order(s.G), least.Order(s.G)} },
			func() [][]int { return [][]int{least.Both(a, a[1:]), least.Both(a, a), least.Both(a[:3], a)} },
		} {
			first := whole(call())
			answer := call()
			text := whole(answer)
			if !wipe(answer) || text != first || whole(call()) != first {
				t.Fatalf("call %d, of %v: answers share memory, or differ", i, s)
			}
			if whole(s) != was || !slices.Equal(a, []int{1, 2, 3, 9}) {
				t.Fatalf("call %d, of %v: what is handed in is written into", i, s)
			}
		}
	}
}

// plain is a system of n variables, v at 2 and v, and so many terms of a constructor behind them: nothing is told of any.
func plain(n, terms int) api.System {
	s := api.System{Sigs: row(), A: term.New()}
	for v := range n {
		s.A.Keys = append(s.A.Keys, []int{api.Var, v, 0})
		s.G.U.V = append(s.G.U.V, v)
	}
	for range terms {
		s.A.Keys = append(s.A.Keys, []int{api.Con, 2, 0, len(s.A.Keys) - 1})
	}
	s.G.Pre, s.G.Suc = make([][]int, n), make([][]int, n)
	return s
}

// TestLong (R1): so long a row of variables that a look at all of them for each would take hours; and so much below each that not all rows have room.
func TestLong(t *testing.T) {
	n := 200000
	for _, terms := range []int{1, n} {
		s := plain(n, terms)
		for v := 1; v < n; v++ {
			s.G.Pre[v] = []int{2 + v - 1}
		}
		for at := range terms {
			s.G.Pre[0] = append(s.G.Pre[0], 2+n+at)
		}
		if got := least.Below(s, n-1); !slices.Equal(got, s.G.Pre[0]) {
			t.Errorf("%d terms: %d", terms, len(got))
		}
		if terms > 1 {
			continue
		}
		for v, row := range least.Table(s) {
			if !slices.Equal(row, s.G.Pre[0]) {
				t.Fatalf("of %d: %v", v, row)
			}
		}
		for v := range n { // the last one is first
			s.G.Ranks = append(s.G.Ranks, -v)
		}
		if got := least.Order(s.G); len(got) != n || got[0] != n-1 || got[n/2] != n-1-n/2 || got[n-1] != 0 {
			t.Errorf("order: %d", len(got))
		}
	}
}

// TestBroad (R1): each variable below all behind it: so many ways that going through all would never end.
func TestBroad(t *testing.T) {
	n := 600
	s := plain(n, n)
	for v := range n {
		for w := range v {
			s.G.Pre[v] = append(s.G.Pre[v], 2+w)
		}
		s.G.Pre[v] = append(s.G.Pre[v], 2+n+v)
	}
	table := least.Table(s)
	for v, row := range table {
		if len(row) != v+1 || row[0] != 2+n || row[v] != 2+n+v || !slices.IsSorted(row) {
			t.Fatalf("of %d: %v", v, row)
		}
	}
	if got := least.Below(s, n-1); !slices.Equal(got, table[n-1]) {
		t.Error(len(got))
	}
	if got := least.Both(table[n-1], table[n/2]); !slices.Equal(got, table[n/2]) {
		t.Error(len(got))
	}
}

// TestLongClass (R1): a class each of which is one step farther from its first one.
func TestLongClass(t *testing.T) {
	n := 3000
	s := plain(n+1, 1)
	for v := 1; v < n; v++ {
		s.G.U.V[v] = v - 1
		s.G.Pre[n] = append(s.G.Pre[n], 2+v)
	}
	s.G.Pre[0] = []int{2 + n + 1}
	for v, row := range least.Table(s) {
		if !slices.Equal(row, s.G.Pre[0]) || !slices.Equal(least.Order(s.G), []int{0, n}) {
			t.Fatalf("of %d: %v", v, row)
		}
		if v%500 == 0 && !slices.Equal(least.Below(s, v), row) {
			t.Fatalf("below %d", v)
		}
	}
}

// TestWrong (R1): of what isn't right nothing is promised but that each call ends, and none panics.
func TestWrong(t *testing.T) {
	r := rand.New(rand.NewSource(7))
	values := []int{math.MinInt, -1, 0, 0, 1, 1, 2, 2, 3, 3, 4, 5, 6, 7, math.MaxInt}
	value := func() int { return values[r.Intn(len(values))] }
	numbers := func(many int) []int {
		out := make([]int, r.Intn(many))
		for i := range out {
			out[i] = value()
		}
		return out
	}
	rows := func() [][]int {
		out := make([][]int, r.Intn(8))
		for i := range out {
			out[i] = numbers(6)
		}
		return out
	}
	for range 20000 {
		s := plain(r.Intn(6), r.Intn(3))
		if r.Intn(3) == 0 {
			s.A.Keys = slices.Insert(s.A.Keys, r.Intn(len(s.A.Keys)), rows()...)
		}
		s.G.Ranks, s.G.Pre, s.G.Suc = numbers(5), rows(), rows()
		if r.Intn(2) == 0 {
			s.G.U.V = numbers(6)
		}
		if got := least.Table(s); len(got) != len(s.G.U.V) {
			t.Fatalf("Table of %v: %d rows", s, len(got))
		}
		least.Below(s, value())
		least.Order(s.G)
		least.Both(numbers(6), numbers(6))
	}
}
