package step_test

import (
	"math/rand"
	"slices"
	"strings"
	"testing"

	"tammy/api"
	"tammy/hash"
	"tammy/load"
	"tammy/side"
	"tammy/step"
	"tammy/term"
)

// TestAll (P10.2): the atoms and clashes to which constraints come, on and on.
func TestAll(t *testing.T) {
	for _, x := range [][4]string{ // what, below what, atoms, clashes
		{"X", "X", "", ""}, {"0", "X", "", ""}, {"X", "1", "", ""}, {"X|Y", "1", "", ""}, {"a", "p~1(X)", "", ""},
		{"X", "Y", "X < Y", ""}, {"X", "0", "X < 0", ""}, {"1", "X", "1 < X", ""},
		{"a", "b", "", "a < b"}, {"1", "0", "", "1 < 0"},
		{"Y|X", "Z", "X < Z; Y < Z", ""}, {"Z", "Y&X", "Z < X; Z < Y", ""}, {"X|X", "Y", "X < Y", ""}, {"X|Y", "Y", "X < Y", ""},
		{"X|Y", "Z&W", "X < Z; X < W; Y < Z; Y < W", ""}, {"W|a|b", "X&0&a", "W < 0; W < X; W < a; a < X; b < X", "a < 0; b < 0; b < a"},
		{"p(X|Y)", "p(Z&a)", "X < Z; X < a; Y < Z; Y < a", ""}, {"m(X&Y)", "m(Z|W)", "Z < X; Z < Y; W < X; W < Y", ""},
		{"m(m(X|Y))", "m(m(Z))", "X < Z; Y < Z", ""}, {"e(X)", "e(Y)", "X < Y; Y < X", ""}, {"e(a)", "e(b)", "", "a < b; b < a"}, {"e(p(X))", "e(p(X))", "", ""},
		{"c(X,a)", "c(b,Y)", "X < b; Y < a", ""}, {"c(a,X)", "c(b,b)", "b < X", "a < b"}, {"c(X,Y)", "c(Y,X)", "X < Y", ""}, {"c(a,b)", "c(b,a)", "", "a < b"},
		{"1", "p~1(X&c~2(Y))", "1 < X; Y < 0", ""}, {"1", "e~1(a)", "", "1 < a; a < 0"}, {"1", "e~1(X)", "1 < X; X < 0", ""}, {"1", "p~1(0)", "", "1 < 0"}, {"1", "p~1(m~1(p~1(X)))", "", ""},
		{"1|a|p(X)", "p~1(Y)", "1 < Y; X < Y", ""}, {"p(X)|m(Y)|e(Z)", "p~1(W)&m~1(W)&e~1(W)", "X < W; Z < W; W < Y; W < Z", ""},
		{"p(p(p(a)))", "p(p(p(b)))", "", "a < b"}, {"p(p(p(a)))", "p(p(b))", "", "p(a) < b"}, {"t(X,Y,a|b)", "t(Z,0,b)", "Y < 0; Z < X", "a < b"},
	} {
		s := newShelf()
		for _, v := range []string{"X", "Y", "Z", "W", "a", "b"} { // first, so that these rise by their places
			s.at(t, v)
		}
		atoms, clashes := step.All(s.l, s.a, s.at(t, x[0]), s.at(t, x[1]))
		if s.pairs(atoms) != x[2] || s.pairs(clashes) != x[3] {
			t.Errorf("%s below %s: %s, and %s, not %s, and %s", x[0], x[1], s.pairs(atoms), s.pairs(clashes), x[2], x[3])
		}
	}
}

// TestAllRises (P10.2): by the first place, then by the second one, each once, however often it comes.
func TestAllRises(t *testing.T) {
	s := newShelf()
	var left, right []string
	for i := range 20 {
		left, right = append(left, number(i)), append(right, number(39-i))
	}
	for i := range 40 {
		s.at(t, number(39-i))
	}
	x := s.at(t, strings.Join(append(left, left...), "|")+"|a|b|p(a)|a")
	y := s.at(t, strings.Join(append(right, right...), "&")+"&b&p(b)&b")
	atoms, clashes := step.All(s.l, s.a, x, y)
	if len(atoms) != 20*20+20*2+3*20 || len(clashes) != 4 {
		t.Errorf("%d atoms, %d clashes: %s", len(atoms), len(clashes), s.pairs(clashes))
	}
	for _, l := range [][]api.Pair{atoms, clashes} {
		for i := 1; i < len(l); i++ {
			if !isLess(l[i-1], l[i]) {
				t.Errorf("%v stands ahead of %v", l[i-1], l[i])
			}
		}
	}
}

// chain is a store of two rows of terms, from X on and from Y on, laid in turns: each of so many has the one ahead of it in its row twice as its parts.
func chain(l []api.Sig, t api.Term, many int) api.Keyed {
	keys := [][]int{{0, 0, 0}, {1, 0, 0}, {2, 0, 0}, {2, 1, 0}}
	for i := range 2 * many {
		t.Args = []int{i + 2, i + 2}
		keys = append(keys, term.Key(t))
	}
	return api.Keyed{Keys: keys, Slots: hash.Lay(keys)}
}

// TestShared (P10.2, R1): terms of many more ways down than can be gone.
func TestShared(t *testing.T) {
	l := []api.Sig{{Name: "c", Args: "++"}, {Name: "d", Args: "=-"}}
	for _, x := range []struct {
		t     api.Term
		atoms []api.Pair
	}{
		{api.Term{Kind: api.Con, Sym: 0}, []api.Pair{{2, 3}}},
		{api.Term{Kind: api.Con, Sym: 1}, []api.Pair{{2, 3}, {3, 2}}},
	} {
		a := chain(l, x.t, 300)
		if !term.Right(l, a) {
			t.Fatal("no store")
		}
		last := len(a.Keys) - 1
		if atoms, clashes := step.All(l, a, last-1, last); !slices.Equal(atoms, x.atoms) || len(clashes) != 0 {
			t.Errorf("%v: %v, %v", x.t, atoms, clashes)
		}
		for _, side := range []byte("LRB") {
			if !step.Sided(l, a, last, side) {
				t.Errorf("%v isn't sided for %c", x.t, side)
			}
		}
	}
	a := chain(l, api.Term{Kind: api.Union}, 300)
	if atoms, _ := step.All(l, a, len(a.Keys)-1, 2); !slices.Equal(atoms, []api.Pair{{3, 2}}) {
		t.Errorf("unions: %v", atoms)
	}
	for side, want := range map[byte]bool{'L': true, 'R': false, 'B': false} {
		if step.Sided(l, a, len(a.Keys)-1, side) != want {
			t.Errorf("unions on %c: %v", side, !want)
		}
	}
}

// TestDeep (R1): as many parts in one another as may be.
func TestDeep(t *testing.T) {
	l := []api.Sig{{Name: "m", Args: "-"}}
	keys := [][]int{{0, 0, 0}, {1, 0, 0}, {2, 0, 0}, {2, 1, 0}}
	for i := range 1 << 17 {
		keys = append(keys, []int{3, 0, 0, i + 2})
	}
	union, other := len(keys), len(keys)+1
	keys = append(keys, []int{4, 0, 0, 2, 3}, []int{3, 0, 0, union})
	for i := range 1<<16 - 1 {
		keys = append(keys, []int{3, 0, 0, other + i})
	}
	a := api.Keyed{Keys: keys} // nobody asks for slots here
	if atoms, clashes := step.All(l, a, other-3, other-2); !slices.Equal(atoms, []api.Pair{{2, 3}}) || len(clashes) != 0 {
		t.Errorf("%v, %v", atoms, clashes)
	}
	last := len(keys) - 1
	for side, want := range map[byte]bool{'L': true, 'R': false, 'B': false} {
		if step.Sided(l, a, last, side) != want || step.Sided(l, a, last-1, 'L'+'R'-side) != (want && side != 'B') {
			t.Errorf("on %c: not %v", side, want)
		}
	}
	if atoms, _ := step.All(l, a, last, other-2); !slices.Equal(atoms, []api.Pair{{2, 3}}) {
		t.Errorf("%v", atoms)
	}
}

// TestSided (P10.2): ordinary terms, each way to vary, and what stands on the wrong side inside.
func TestSided(t *testing.T) {
	for text, want := range map[string]string{ // the sides for which it is sided
		"0": "LRB", "1": "LRB", "X": "LRB", "a": "LRB", "c(X,Y)": "LRB", "t(X,a,c(0,1))": "LRB",
		"X|Y": "L", "X&Y": "R", "c~1(X)": "R", "c~2(X)": "R", "e~1(X)": "R",
		"X|Y|a": "L", "X&Y&a": "R", "(X|Y)&Z": "", "(X&Y)|Z": "", "X|c~1(Y)": "", "X&c~1(Y)": "R",
		"p(X|Y)": "L", "p(X&Y)": "R", "m(X|Y)": "R", "m(X&Y)": "L", "e(X|Y)": "", "e(X&Y)": "", "e(e~1(X))": "", "m(m~1(X))": "L", "p(m~1(X))": "R",
		"p(p(X|Y))": "L", "m(p(X|Y))": "R", "m(m(X|Y))": "L", "m(m(m(X|Y)))": "R", "m(m(X&Y))": "R", "e(m(X))": "LRB", "e(m(X|Y))": "",
		"c(X|Y,Z)": "L", "c(X,Y|Z)": "R", "c(X|Y,Z&W)": "L", "c(X&Y,Z|W)": "R", "c(X|Y,Z|W)": "", "c(X&Y,Z&W)": "", "c(X|Y,Z)|m(W&X)": "L", "c(X|Y,Z)|m(W|X)": "",
		"t(X&Y,Z,X|Y)": "L", "t(X|Y,Z,X&Y)": "R", "t(X,X|Y,Y)": "", "t(X,X&Y,Y)": "", "t(X|Y,Z,X|Y)": "",
		"p~1(X|Y)": "", "p~1(X&Y)": "R", "m~1(X|Y)": "R", "m~1(X&Y)": "", "e~1(X|Y)": "", "e~1(X&Y)": "", "e~1(c(X,Y))": "R", "m~1(m~1(X))": "", "m~1(m(X&Y))": "R", "m~1(m(X|Y))": "", "m~1(p(X|Y))": "R", "m~1(m(m~1(X)))": "R", "p~1(p~1(X))": "R",
		"c~1(X&Y)": "R", "c~2(X|Y)": "R", "c~2(X&Y)": "", "t~2(X|Y)": "", "t~3(X&Y)": "R", "t~1(X|Y)": "R",
	} {
		s := newShelf()
		id := s.at(t, text)
		for _, on := range []byte("LRB") {
			if got := step.Sided(s.l, s.a, id, on); got != strings.Contains(want, string(on)) {
				t.Errorf("%s on %c: %v", text, on, got)
			}
		}
	}
}

// TestSidedMixed (P10.2): a term that stands in another one on two sides must be sided for both.
func TestSidedMixed(t *testing.T) {
	s := newShelf()
	for text, want := range map[string]bool{"c(X|Y,X|Y)": false, "c(X&Y,X&Y)": false, "c(p(X),p(X))": true, "c(m(m(X)),m(X))": true, "c(p(X|Y),m(X|Y))": true, "c(p(m~1(X)),m(m~1(X)))": false, "c(m(m~1(X)),p(m~1(X)))": true} {
		if got := step.Sided(s.l, s.a, s.at(t, text), 'L'); got != want {
			t.Errorf("%s: %v", text, got)
		}
	}
}

// TestSidedBytes (P10.2): each byte that is none of the three counts as B.
func TestSidedBytes(t *testing.T) {
	s := newShelf()
	for _, text := range []string{"X", "c(X,a)", "X|Y", "X&Y", "m(X|Y)", "m(X&Y)", "c~2(X)", "e(X|Y)", "m(m~1(X))"} {
		id := s.at(t, text)
		for i := range 256 {
			as := byte(i)
			if as != 'L' && as != 'R' {
				as = 'B'
			}
			if got, want := step.Sided(s.l, s.a, id, byte(i)), secondSided(s.l, s.a, id, as); got != want {
				t.Errorf("%s on byte %d: %v", text, i, got)
			}
		}
	}
}

// TestSidedReadings (P10.2): Sided against a second reading, and against what chapter 8 tells of the term's expression.
func TestSidedReadings(t *testing.T) {
	r := rand.New(rand.NewSource(4))
	names := []string{"X", "Y", "Z", "W"}
	many := map[bool]int{}
	for range 300 {
		a := chance(t, r, row(), 5+r.Intn(30))
		for id := range a.Keys {
			for _, on := range []byte("LRB") {
				got := step.Sided(row(), a, id, on)
				if want := secondSided(row(), a, id, on); got != want {
					t.Fatalf("%v: %d on %c: %v", a.Keys, id, on, got)
				}
				e, why := load.Nodes(row(), a, names, id)
				if why != api.OK {
					continue
				}
				if _, why := side.Check(row(), e, on); got != (why == api.OK) {
					t.Fatalf("%v: %d on %c: %v, but Check tells %d", a.Keys, id, on, got, why)
				}
				many[got]++
			}
		}
	}
	if many[true] < 1000 || many[false] < 1000 {
		t.Errorf("%v", many)
	}
}
