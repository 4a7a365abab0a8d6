package step_test

import (
	"math"
	"math/rand"
	"slices"
	"testing"

	"tammy/api"
	"tammy/hash"
	"tammy/sig"
	"tammy/step"
	"tammy/term"
)

// cases are constraints, and what they come to: told one by one, so that they don't hang on a second reading of the document.
func cases() [][3]string {
	return [][3]string{
		// It holds, whatever else is so.
		{"X", "X", "done"}, {"a", "a", "done"}, {"X|Y", "X|Y", "done"}, {"X&Y", "X&Y", "done"}, {"c(X,Y)", "c(X,Y)", "done"}, {"c~1(X)", "c~1(X)", "done"},
		{"0", "0", "done"}, {"1", "1", "done"}, {"0", "1", "done"}, {"0", "X", "done"}, {"0", "a", "done"}, {"0", "X&Y", "done"}, {"0", "c~1(X)", "done"}, {"0", "X|Y", "done"},
		{"X", "1", "done"}, {"a", "1", "done"}, {"X|Y", "1", "done"}, {"X&Y", "1", "done"}, {"c~1(X)", "1", "done"}, {"c(X,Y)", "1", "done"},
		// A union on the left comes ahead of all else.
		{"X|Y", "Z", "X < Z; Y < Z"}, {"Y|X", "Z", "Y < Z; X < Z"}, {"X|X", "Z", "X < Z; X < Z"}, {"X|a", "0", "X < 0; a < 0"}, {"a|b", "a", "a < a; b < a"},
		{"X|Y", "Z&W", "X < Z&W; Y < Z&W"}, {"X|Y", "X", "X < X; Y < X"}, {"X|Y|Z", "W", "X|Y < W; Z < W"}, {"0|1", "X", "0 < X; 1 < X"},
		{"X|Y", "c~1(Z)", "X < c~1(Z); Y < c~1(Z)"}, {"X|Y", "Y|X", "X < Y|X; Y < Y|X"}, {"X|Y", "X&Y", "X < X&Y; Y < X&Y"},
		// An intersection on the right comes ahead of variables.
		{"X", "Y&Z", "X < Y; X < Z"}, {"X", "Z&Y", "X < Z; X < Y"}, {"X", "X&Y", "X < X; X < Y"}, {"a", "0&X", "a < 0; a < X"}, {"1", "a&b", "1 < a; 1 < b"}, {"X", "Y&Y", "X < Y; X < Y"},
		{"X&Y", "Y&X", "X&Y < Y; X&Y < X"}, {"c~1(X)", "X&Y", "c~1(X) < X; c~1(X) < Y"}, {"c(X,Y)", "c~1(Z)&1", "c(X,Y) < c~1(Z); c(X,Y) < 1"}, {"X", "Y&Z&W", "X < Y&Z; X < W"},
		// A variable.
		{"X", "Y", "atom"}, {"X", "0", "atom"}, {"1", "X", "atom"}, {"a", "X", "atom"}, {"X", "a", "atom"}, {"c(X,Y)", "X", "atom"}, {"X", "c(X,Y)", "atom"}, {"X", "c~1(Y)", "atom"}, {"X", "c~2(X)", "atom"},
		{"X", "Y|Z", "atom"}, {"X", "X|Y", "atom"}, {"X&Y", "X", "atom"}, {"c~1(X)", "X", "atom"},
		// All below a projection.
		{"1", "p~1(X)", "1 < X"}, {"1", "m~1(X)", "X < 0"}, {"1", "e~1(X)", "1 < X; X < 0"}, {"1", "c~1(X)", "1 < X"}, {"1", "c~2(X)", "X < 0"}, {"1", "t~1(X)", "X < 0"}, {"1", "t~2(X)", "1 < X; X < 0"}, {"1", "t~3(X)", "1 < X"},
		{"1", "p~1(1)", "1 < 1"}, {"1", "p~1(0)", "1 < 0"}, {"1", "m~1(0)", "0 < 0"}, {"1", "e~1(a)", "1 < a; a < 0"}, {"1", "m~1(X|Y)", "X|Y < 0"}, {"1", "p~1(c~2(X))", "1 < c~2(X)"},
		// A constructor's term below a projection.
		{"p(X)", "p~1(Y)", "X < Y"}, {"m(X)", "m~1(Y)", "Y < X"}, {"e(X)", "e~1(Y)", "X < Y; Y < X"}, {"c(X,Y)", "c~1(Z)", "X < Z"}, {"c(X,Y)", "c~2(Z)", "Z < Y"},
		{"t(X,Y,Z)", "t~1(W)", "W < X"}, {"t(X,Y,Z)", "t~2(W)", "Y < W; W < Y"}, {"t(X,Y,Z)", "t~3(W)", "Z < W"}, {"e(X)", "e~1(X)", "X < X; X < X"}, {"p(1)", "p~1(0)", "1 < 0"},
		{"full(X,0,Y,0,0,0,Z,W)", "full~1(a)", "X < a"}, {"full(X,0,Y,0,0,0,Z,W)", "full~7(a)", "a < Z"}, {"full(X,0,Y,0,0,0,Z,W)", "full~8(a)", "W < a"}, {"full(X,0,Y,0,0,0,Z,W)", "full~3(a)", "Y < a; a < Y"},
		{"a", "p~1(X)", "done"}, {"p(X)", "m~1(X)", "done"}, {"c(X,Y)", "t~1(X)", "done"}, {"p(1)", "e~1(0)", "done"}, {"b", "full~8(0)", "done"},
		// Two of one constructor.
		{"p(X)", "p(Y)", "X < Y"}, {"m(X)", "m(Y)", "Y < X"}, {"e(X)", "e(Y)", "X < Y; Y < X"}, {"c(X,Y)", "c(Z,W)", "X < Z; W < Y"}, {"c(X,Y)", "c(Y,X)", "X < Y; X < Y"}, {"c(X,X)", "c(X,Y)", "X < X; Y < X"},
		{"t(X,Y,Z)", "t(a,b,1)", "a < X; Y < b; b < Y; Z < 1"}, {"p(1)", "p(0)", "1 < 0"}, {"p(p(X))", "p(a)", "p(X) < a"},
		{"full(X,X,X,X,X,X,X,X)", "full(a,b,0,1,Y,Z,W,p(X))", "X < a; b < X; X < 0; 0 < X; X < 1; Y < X; X < Z; Z < X; W < X; X < p(X)"},
		// What can't be.
		{"1", "0", "clash"}, {"1", "a", "clash"}, {"a", "0", "clash"}, {"a", "b", "clash"}, {"b", "a", "clash"}, {"a", "p(X)", "clash"}, {"p(X)", "a", "clash"}, {"p(X)", "m(X)", "clash"}, {"c(X,Y)", "0", "clash"}, {"1", "c(X,Y)", "clash"}, {"e(X)", "t(X,X,X)", "clash"},
		// All else: what stands on the wrong side.
		{"X&Y", "0", "done"}, {"X&Y", "a", "done"}, {"X&Y", "p~1(X)", "done"}, {"X&Y", "X|Y", "done"}, {"c~1(X)", "0", "done"}, {"c~1(X)", "c(X,Y)", "done"}, {"p~1(X)", "c~1(X)", "done"}, {"p~1(X)", "p~1(Y)", "done"}, {"c~1(X)", "X|Y", "done"},
		{"1", "X|Y", "done"}, {"a", "X|Y", "done"}, {"a", "a|b", "done"}, {"c(X,Y)", "0|0", "done"},
	}
}

// TestStep (P10.1): each row of the table, and which of them comes first.
func TestStep(t *testing.T) {
	for _, x := range cases() {
		s := newShelf()
		s.at(t, "full(X,Y,Z,W,a,b,0,1)")
		left, right := s.at(t, x[0]), s.at(t, x[1])
		if got := s.way(step.Step(s.l, s.a, left, right)); got != x[2] {
			t.Errorf("%s below %s: %s, not %s", x[0], x[1], got, x[2])
		}
	}
	s := &shelf{l: []api.Sig{{Name: "c", Args: "+"}}, a: term.New()}
	if got := s.way(step.Step(s.l, s.a, s.at(t, "c(X)"), s.at(t, "c(1)"))); got != "X < 1" {
		t.Errorf("the document's example: %s", got)
	}
}

// TestNumbers (P10.1): a way by its numbers; one of a kind that is made of none has none.
func TestNumbers(t *testing.T) {
	a := laid([]int{2, 0, 0}, []int{3, 4, 0, 2}, []int{3, 4, 0, 1}, []int{3, 0, 0}, []int{6, 4, 0, 2}) // X, e(X), e(1), a, e~1(X)
	for _, x := range []struct {
		x, y int
		want api.Way
	}{
		{0, 1, api.Way{Kind: 0}},
		{3, 4, api.Way{Kind: 1, Pairs: []api.Pair{{2, 1}, {1, 2}}}},
		{1, 6, api.Way{Kind: 1, Pairs: []api.Pair{{1, 2}, {2, 0}}}},
		{4, 6, api.Way{Kind: 1, Pairs: []api.Pair{{1, 2}, {2, 1}}}},
		{2, 5, api.Way{Kind: 2}},
		{5, 0, api.Way{Kind: 3}},
	} {
		if got := step.Step(row(), a, x.x, x.y); got.Kind != x.want.Kind || !slices.Equal(got.Pairs, x.want.Pairs) {
			t.Errorf("%d below %d: %v, not %v", x.x, x.y, got, x.want)
		}
	}
}

// TestNoPlace (P10.1, P10.2): places that aren't there.
func TestNoPlace(t *testing.T) {
	s := newShelf()
	s.at(t, "p(X|a)")
	none := []int{-1, -2, len(s.a.Keys), len(s.a.Keys) + 1, math.MinInt, math.MaxInt}
	for _, x := range none {
		for _, y := range append(slices.Clone(none), 0, 1, 2, 3, 4, 5) {
			for _, p := range [][2]int{{x, y}, {y, x}} {
				if w := step.Step(s.l, s.a, p[0], p[1]); w.Kind != api.WDone || len(w.Pairs) != 0 {
					t.Errorf("Step of %v: %v", p, w)
				}
				if atoms, clashes := step.All(s.l, s.a, p[0], p[1]); len(atoms) != 0 || len(clashes) != 0 {
					t.Errorf("All of %v: %v, %v", p, atoms, clashes)
				}
			}
		}
		for _, side := range []byte("LRB") {
			if step.Sided(s.l, s.a, x, side) {
				t.Errorf("Sided(%d, %c)", x, side)
			}
		}
	}
	if w := step.Step(nil, api.Keyed{}, 0, 1); w.Kind != api.WDone || step.Sided(nil, api.Keyed{}, 0, 'L') {
		t.Error("of no terms")
	}
}

// TestTwoReadings (P10.1, P10.2): all two places of many stores by chance, those that are none on some side among them.
func TestTwoReadings(t *testing.T) {
	r := rand.New(rand.NewSource(1))
	kinds := map[int]int{}
	for range 60 {
		l := row()[:4+r.Intn(5)]
		a := chance(t, r, l, 5+r.Intn(25))
		for x := -1; x <= len(a.Keys); x++ {
			for y := -1; y <= len(a.Keys); y++ {
				wantStep(t, l, a, x, y)
				kinds[step.Step(l, a, x, y).Kind]++
			}
		}
	}
	for kind := range 4 {
		if kinds[kind] < 100 {
			t.Errorf("kind %d: %d times alone", kind, kinds[kind])
		}
	}
}

// TestFollows (P10.3): where x is sided for L, and y for R, each part is, likewise; all that comes out is there.
func TestFollows(t *testing.T) {
	r := rand.New(rand.NewSource(2))
	many := 0
	for range 80 {
		a := chance(t, r, row(), 5+r.Intn(30))
		for x := range a.Keys {
			for y := range a.Keys {
				isSided := step.Sided(row(), a, x, 'L') && step.Sided(row(), a, y, 'R')
				for _, p := range step.Step(row(), a, x, y).Pairs {
					if p[0] < 0 || p[1] < 0 || p[0] >= len(a.Keys) || p[1] >= len(a.Keys) {
						t.Fatalf("%d below %d: %v isn't there", x, y, p)
					}
					if isSided && !(step.Sided(row(), a, p[0], 'L') && step.Sided(row(), a, p[1], 'R')) {
						t.Fatalf("%v: %d below %d: %v isn't sided", a.Keys, x, y, p)
					}
					if isSided {
						many++
					}
				}
			}
		}
	}
	if many < 1000 {
		t.Errorf("%d parts alone", many)
	}
}

// TestSame (P10.2): the same, all of it.
func TestSame(t *testing.T) {
	base := api.Way{Kind: 1, Pairs: []api.Pair{{1, 2}, {3, 4}}}
	for i, x := range []struct {
		w    api.Way
		want bool
	}{
		{api.Way{Kind: 1, Pairs: []api.Pair{{1, 2}, {3, 4}}}, true},
		{api.Way{Kind: 2, Pairs: []api.Pair{{1, 2}, {3, 4}}}, false},
		{api.Way{Kind: 0, Pairs: []api.Pair{{1, 2}, {3, 4}}}, false},
		{api.Way{Kind: 1, Pairs: []api.Pair{{3, 4}, {1, 2}}}, false},
		{api.Way{Kind: 1, Pairs: []api.Pair{{2, 1}, {3, 4}}}, false},
		{api.Way{Kind: 1, Pairs: []api.Pair{{1, 2}, {3, 5}}}, false},
		{api.Way{Kind: 1, Pairs: []api.Pair{{1, 2}}}, false},
		{api.Way{Kind: 1, Pairs: []api.Pair{{1, 2}, {3, 4}, {0, 0}}}, false},
		{api.Way{Kind: 1}, false},
		{api.Way{}, false},
	} {
		if step.Same(base, x.w) != x.want || step.Same(x.w, base) != x.want {
			t.Errorf("%d: %v", i, x.w)
		}
	}
	if !step.Same(api.Way{Kind: -3}, api.Way{Kind: -3, Pairs: []api.Pair{}}) || !step.Same(api.Way{}, api.Way{}) {
		t.Error("without pairs")
	}
}

// TestMemory (R3, R4): nothing that is handed in is changed, no answer is a later one's memory, and all calls answer the same again.
func TestMemory(t *testing.T) {
	s := newShelf()
	for _, x := range cases() {
		s.at(t, x[0])
		s.at(t, x[1])
	}
	s.at(t, "full(X|Y,0,c(a,b),X,Y,a,Z,W)")
	wasL, wasA := slices.Clone(s.l), clone(s.a)
	last := len(s.a.Keys) - 1
	for x := range last + 1 {
		for y := range last + 1 {
			w := step.Step(s.l, s.a, x, y)
			atoms, clashes := step.All(s.l, s.a, x, y)
			keep, keepAtoms, keepClashes := slices.Clone(w.Pairs), slices.Clone(atoms), slices.Clone(clashes)
			for _, l := range [][]api.Pair{w.Pairs, atoms, clashes} {
				for i := range l[:cap(l)] {
					l[:cap(l)][i] = api.Pair{-9, -9}
				}
			}
			again := step.Step(s.l, s.a, x, y)
			atoms, clashes = step.All(s.l, s.a, x, y)
			if again.Kind != w.Kind || !slices.Equal(again.Pairs, keep) || !slices.Equal(atoms, keepAtoms) || !slices.Equal(clashes, keepClashes) {
				t.Fatalf("%d below %d: not the same again", x, y)
			}
		}
	}
	if !sig.Same(s.l, wasL) || !hash.Same(s.a, wasA) {
		t.Error("the arguments are changed")
	}
}

// TestWrong (R1): rows and stores that aren't right, of which nothing is promised but that the calls end.
func TestWrong(t *testing.T) {
	rows := [][]api.Sig{nil, row(), {{Name: "c", Args: "x"}, {Args: "\x00-"}}, {{}, {}}}
	numbers := []int{-1, 0, 1, 2, 3, 4, 5, 6, 7, math.MinInt, math.MaxInt}
	r := rand.New(rand.NewSource(3))
	for range 20000 {
		var a api.Keyed
		for range r.Intn(7) {
			var key []int
			for range r.Intn(7) {
				n := r.Intn(5)
				if r.Intn(6) == 0 {
					n = numbers[r.Intn(len(numbers))]
				}
				key = append(key, n)
			}
			if len(key) > 0 && r.Intn(2) == 0 {
				key[0] = 3 + r.Intn(4)
			}
			a.Keys = append(a.Keys, key)
		}
		l := rows[r.Intn(len(rows))]
		for x := -1; x <= len(a.Keys); x++ {
			for y := -1; y <= len(a.Keys); y++ {
				step.Step(l, a, x, y)
				step.All(l, a, x, y)
			}
			step.Sided(l, a, x, byte("LRB"[r.Intn(3)]))
		}
	}
	for _, a := range []api.Keyed{laid([]int{4, 0, 0, 2, 2}), laid([]int{4, 0, 0, 3, 3}, []int{5, 0, 0, 2, 2}), laid([]int{3, 2, 0, 3}, []int{3, 2, 0, 2}), laid([]int{6, 3, 0, 2})} {
		for x := range a.Keys {
			for y := range a.Keys {
				step.Step(row(), a, x, y)
				step.All(row(), a, x, y)
			}
			step.Sided(row(), a, x, 'R')
		}
	}
}
