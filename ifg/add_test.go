package ifg_test

import (
	"math"
	"math/rand"
	"slices"
	"testing"

	"tammy/api"
	"tammy/ifg"
	"tammy/uf"
)

// wantAdd holds an Add against the second reading, and tells what came out.
func wantAdd(t *testing.T, a api.Keyed, g api.Graph, p api.Pair) (api.Graph, []api.Pair, bool) {
	t.Helper()
	got, come, isNew := ifg.Add(a, g, p)
	want, wantCome, wantNew := secondAdd(a, g, p)
	if !equal(got, want) || !slices.Equal(come, wantCome) || isNew != wantNew {
		t.Fatalf("Add(%v, %v, %v): %v, %v, %v, not %v, %v, %v", a.Keys, g, p, got, come, isNew, want, wantCome, wantNew)
	}
	return got, come, isNew
}

// wantOne holds a One against the second reading, and tells what came out.
func wantOne(t *testing.T, a api.Keyed, g api.Graph, x, y int) (api.Graph, []api.Pair) {
	t.Helper()
	got, come := ifg.One(a, g, x, y)
	want, wantCome := secondOne(a, g, x, y)
	if !equal(got, want) || !slices.Equal(come, wantCome) {
		t.Fatalf("One(%v, %v, %d, %d): %v, %v, not %v, %v", a.Keys, g, x, y, got, come, want, wantCome)
	}
	if !equal(got, g) && got.U.V[uf.Find(got.U, x)] != uf.Find(got.U, y) || !slices.Equal(got.U.V, uf.Join(g.U, g.Ranks, x, y).V) {
		t.Fatalf("One(%v, %v, %d, %d): %v are the classes", a.Keys, g, x, y, got.U)
	}
	return got, come
}

// TestAddVars (P12.2): the document's example; of two variables the one that is behind tells of the one that is ahead.
func TestAddVars(t *testing.T) {
	s := kinds(t)
	g := ifg.New(nil, 3)
	s.holds(t, s.add(t, g, "X < Y", true, ""), "X < Y <")
	s.holds(t, s.add(t, g, "Y < X", true, ""), "< Y < X")
	both := s.add(t, s.add(t, g, "X < Y", true, ""), "Y < X", true, "X < X")
	s.holds(t, both, "X < Y < X")
	for _, ranks := range someRanks() {
		ahead, behind := "X", "Y"
		if isAhead(ranks, 1, 0) {
			ahead, behind = "Y", "X"
		}
		g := ifg.New(ranks, 3)
		s.holds(t, s.add(t, g, ahead+" < "+behind, true, ""), ahead+" < "+behind+" <")
		s.holds(t, s.add(t, g, behind+" < "+ahead, true, ""), "< "+behind+" < "+ahead)
		s.add(t, g, "X < X", false, "")
	}
}

// TestAddOthers (P12.2): a variable below, or above, what is none: in its row stands what may, all else isn't laid.
func TestAddOthers(t *testing.T) {
	s := kinds(t)
	g := ifg.New(nil, 3) // V isn't there
	for other, is := range map[string][2]bool{
		"0": {false, true}, "1": {true, false}, "a": {true, true}, "p(X)": {true, true}, "c(X,Z)": {true, true}, "p(V)": {true, true},
		"p~1(X)": {false, true}, "c~2(Z)": {false, true}, "X|Y": {false, false}, "X&Y": {false, false}, "V": {false, false},
	} {
		inPre, inSuc := "", ""
		if is[0] {
			inPre = other + " < Y <"
		}
		if is[1] {
			inSuc = "< Y < " + other
		}
		s.holds(t, s.add(t, g, other+" < Y", is[0], ""), inPre)
		s.holds(t, s.add(t, g, "Y < "+other, is[1], ""), inSuc)
		for _, more := range []string{"a", "0", "1", "V", "X|Y", other} {
			s.add(t, g, other+" < "+more, false, "") // no variable
			s.add(t, g, more+" < "+other, false, "")
		}
	}
	y := s.at(t, "Y")
	for _, no := range []int{-1, len(s.a.Keys), math.MinInt, math.MaxInt} {
		for _, p := range []api.Pair{{no, y}, {y, no}, {no, no}, {no, 0}, {1, no}} {
			if got, come, is := ifg.Add(s.a, g, p); is || come != nil || !equal(got, g) {
				t.Errorf("Add of %v: %v, %v, %v", p, got, come, is)
			}
		}
	}
}

// TestAddComes (P12.2): what comes of it, in order; what stands there already is told of no more.
func TestAddComes(t *testing.T) {
	s := kinds(t)
	g := ifg.New(nil, 3)
	g = s.add(t, g, "b < Z", true, "")
	g = s.add(t, g, "1 < Z", true, "")
	g = s.add(t, g, "Z < Y", true, "1 < Y; b < Y")
	g = s.add(t, g, "X < Z", true, "X < Y")
	g = s.add(t, g, "Z < 0", true, "1 < 0; X < 0; b < 0")
	g = s.add(t, g, "a < Z", true, "a < 0; a < Y")
	g = s.add(t, g, "Z < a", true, "1 < a; a < a; X < a; b < a")
	g = s.add(t, g, "Y < Z", true, "Y < 0; Y < a; Y < Y")
	g = s.add(t, g, "Z < p~1(X)", true, "1 < p~1(X); a < p~1(X); X < p~1(X); Y < p~1(X); b < p~1(X)")
	s.holds(t, g, "1 a X Y b < Z < 0 a Y p~1(X)")
	for _, p := range []string{"b < Z", "1 < Z", "Z < Y", "X < Z", "Z < 0", "a < Z", "Z < a", "Y < Z", "Z < p~1(X)", "Z < Z"} {
		s.add(t, g, p, false, "")
	}
	// Nothing of it stands in the rows of who is ahead.
	g = s.add(t, g, "a < X", true, "")
	g = s.add(t, g, "X < Y", true, "")
	g = s.add(t, g, "Y < X", true, "X < X")
	s.holds(t, g, "a < X <; X < Y < X; 1 a X Y b < Z < 0 a Y p~1(X)")
}

// TestAddClasses (P12.2): the ones for the places count; in what comes of it each is the one for itself, then, too.
func TestAddClasses(t *testing.T) {
	s := kinds(t)
	g := ifg.New([]int{1, 0, 2, 3}, 4) // Y, X, Z, V
	g = s.add(t, g, "X < V", true, "")
	g = s.add(t, g, "b < V", true, "")
	g, _ = ifg.One(s.a, g, 0, 1)
	s.holds(t, g, "X = Y; X b < V <")
	s.add(t, g, "X < Y", false, "")
	s.add(t, g, "Y < X", false, "")
	s.holds(t, s.add(t, g, "V < Z", true, "Y < Z; b < Z"), "X = Y; X b < V < Z")
	s.holds(t, s.add(t, g, "X < Z", true, ""), "X = Y; Y < Z <; X b < V <")
	s.holds(t, s.add(t, g, "Z < X", true, ""), "X = Y; < Z < Y; X b < V <")
	s.holds(t, s.add(t, g, "X < a", true, ""), "X = Y; < Y < a; X b < V <")
	s.holds(t, s.add(t, g, "a < X", true, ""), "X = Y; a < Y <; X b < V <")
	// It is Y that stands in a row then, though X, which Y is the one for, does already.
	g = s.add(t, g, "X < V", true, "")
	s.holds(t, g, "X = Y; X Y b < V <")
	s.add(t, g, "X < V", false, "")
	s.add(t, g, "V < 0", true, "Y < 0; Y < 0; b < 0")
	g, _ = ifg.One(s.a, g, 2, 3)
	s.holds(t, g, "X = Y; V = Z")
	s.holds(t, s.add(t, g, "X < V", true, ""), "X = Y; Y < Z <; V = Z")
}

// TestAddAll (P12.2, P12.4): right graphs by chance, each two places, those that are none among them, against a second reading.
func TestAddAll(t *testing.T) {
	r := rand.New(rand.NewSource(3))
	count := map[bool]int{}
	for range 60 {
		n := r.Intn(6)
		a := chanceStore(t, r, n, 16)
		g := chanceGraph(r, a, n, 2+r.Intn(6))
		for x := -1; x <= len(a.Keys); x++ {
			for y := -1; y <= len(a.Keys); y++ {
				got, _, isNew := wantAdd(t, a, g, api.Pair{x, y})
				if !ifg.Right(a, got) || !secondRight(a, got) {
					t.Fatalf("Add(%v, %v, %d, %d): %v isn't right", a.Keys, g, x, y, got)
				}
				count[isNew]++
			}
		}
	}
	if count[true] < 1000 || count[false] < 1000 {
		t.Error(count)
	}
}

// TestOne (P12.3): classes that are made one, whichever is named first; what was told of the one that isn't the first one any more, and nothing else, comes, and is gone.
func TestOne(t *testing.T) {
	s := kinds(t)
	g := ifg.New([]int{3, 1, 2}, 4) // V, Y, Z, X
	for _, p := range []string{"b < X", "Z < X", "X < Y", "X < V", "X < 0", "a < Y", "Y < V", "Y < a", "Z < p(X)", "Z < Y"} {
		g, _, _ = ifg.Add(s.a, g, s.pair(t, p))
	}
	s.holds(t, g, "b Z < X < 0 Y V; a < Y < a V; < Z < p(X) Y")
	is := func(g api.Graph, x, y int, want, come string) api.Graph {
		t.Helper()
		var out api.Graph
		for _, xy := range [][2]int{{x, y}, {y, x}} {
			got, l := ifg.One(s.a, g, xy[0], xy[1])
			s.holds(t, got, want)
			if s.pairs(l) != come || !slices.Equal(got.U.V, uf.Join(g.U, g.Ranks, x, y).V) || !slices.Equal(got.U.Notes, uf.Join(g.U, g.Ranks, x, y).Notes) {
				t.Errorf("One(%d, %d) of %s: %s, %v", x, y, s.graph(g), s.pairs(l), got.U)
			}
			out = got
		}
		return out
	}
	is(g, 0, 1, "X = Y; a < Y < a V; < Z < p(X) Y", "b < Y; Z < Y; Y < 0; Y < Y; Y < V")
	is(g, 0, 3, "X = V; a < Y < a V; < Z < p(X) Y", "b < V; Z < V; V < 0; V < Y; V < V")
	is(g, 1, 3, "b Z < X < 0 Y V; Y = V; < Z < p(X) Y", "a < V; V < a; V < V")
	is(g, 2, 1, "b Z < X < 0 Y V; a < Y < a V; Z = Y", "Y < p(X); Y < Y")
	h := is(g, 2, 0, "X = Z; a < Y < a V; < Z < p(X) Y", "b < Z; Z < Z; Z < 0; Z < Y; Z < V")
	is(h, 2, 0, "X = Z; a < Y < a V; < Z < p(X) Y", "")
	is(h, 0, 0, "X = Z; a < Y < a V; < Z < p(X) Y", "")
	h = is(h, 0, 1, "X = Z; a < Y < a V; Z = Y", "Y < p(X); Y < Y")
	is(h, 0, 3, "X = Z; Y = V; Z = Y", "a < V; V < a; V < V")
	is(ifg.New(nil, 4), 3, 2, "V = Z", "")
}

// TestOneThen (P12.3): in what comes each is the one for itself behind the joining, also who is neither of the two.
func TestOneThen(t *testing.T) {
	s := kinds(t)
	g := ifg.New(nil, 4)
	for _, p := range []string{"Z < V", "V < Y", "V < a"} {
		g, _, _ = ifg.Add(s.a, g, s.pair(t, p))
	}
	g, _ = ifg.One(s.a, g, 0, 1) // X is the one for Y
	s.holds(t, g, "Y = X; Z < V < a Y")
	g, l := ifg.One(s.a, g, 3, 2)
	s.holds(t, g, "Y = X; V = Z")
	if s.pairs(l) != "Z < Z; Z < a; Z < X" {
		t.Error(s.pairs(l))
	}
}

// TestOneAll (P12.3, P12.4): right graphs by chance, each two variables, against a second reading.
func TestOneAll(t *testing.T) {
	r := rand.New(rand.NewSource(4))
	for range 300 {
		n := 1 + r.Intn(6)
		a := chanceStore(t, r, n, 16)
		g := chanceGraph(r, a, n, 2+r.Intn(6))
		for x := range n {
			for y := range n {
				got, _ := wantOne(t, a, g, x, y)
				if !ifg.Right(a, got) || !secondRight(a, got) {
					t.Fatalf("One(%v, %v, %d, %d): %v isn't right", a.Keys, g, x, y, got)
				}
			}
		}
	}
}

// TestOneNobody (P12.3): of who isn't there nothing is told.
func TestOneNobody(t *testing.T) {
	s := kinds(t)
	g := s.add(t, ifg.New(nil, 2), "a < Y", true, "")
	for _, no := range []int{-1, 2, 3, math.MinInt, math.MaxInt} {
		for _, xy := range [][2]int{{no, 0}, {1, no}, {no, no}, {no, -2}} {
			if got, come := ifg.One(s.a, g, xy[0], xy[1]); come != nil || !equal(got, g) {
				t.Errorf("One(%v): %v, %v", xy, got, come)
			}
		}
	}
}
