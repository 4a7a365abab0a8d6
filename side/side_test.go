package side_test

import (
	"math/rand"
	"slices"
	"strconv"
	"strings"
	"testing"

	"tammy/api"
	"tammy/expr"
	"tammy/side"
	"tammy/sig"
)

// TestOf (P8.1): ordinary expressions: each way to vary, in each kind of whole, and in one another; parts of what isn't known.
func TestOf(t *testing.T) {
	for s, want := range map[string][3]string{ // on L, on R, on B
		"X":                      {"L", "R", "B"},
		"0":                      {"L", "R", "B"},
		"1":                      {"L", "R", "B"},
		"a":                      {"L", "R", "B"},
		"X|Y":                    {"LLL", "RRR", "BBB"},
		"X&Y":                    {"LLL", "RRR", "BBB"},
		"X|Y|a":                  {"LLLLL", "RRRRR", "BBBBB"},
		"p(X)":                   {"LL", "RR", "BB"},
		"m(X)":                   {"RL", "LR", "BB"},
		"e(X)":                   {"BL", "BR", "BB"},
		"c(X,Y)":                 {"LRL", "RLR", "BBB"},
		"ref(X,Y,0)":             {"LLRL", "RRLR", "BBBB"},
		"t(X,Y,0)":               {"RBLL", "LBRR", "BBBB"},
		"full(1,1,1,1,1,1,1,1)":  {"LRBLRBRLL", "RLBRLBLRR", "BBBBBBBBB"},
		"ref~1(X)":               {"LL", "RR", "BB"},
		"ref~2(X)":               {"LL", "RR", "BB"},
		"ref~3(X)":               {"RL", "LR", "BB"},
		"t~1(X)":                 {"RL", "LR", "BB"},
		"t~2(X)":                 {"BL", "BR", "BB"},
		"t~3(X)":                 {"LL", "RR", "BB"},
		"full~8(X)":              {"LL", "RR", "BB"},
		"full~7(X)":              {"RL", "LR", "BB"},
		"m(m(X))":                {"LRL", "RLR", "BBB"},
		"m(m(m(X)))":             {"RLRL", "LRLR", "BBBB"},
		"m(e(m(X)))":             {"BBRL", "BBLR", "BBBB"},
		"e(m(p(X)))":             {"BBBL", "BBBR", "BBBB"},
		"m(X&p(Y))":              {"RRRRL", "LLLLR", "BBBBB"},
		"c(m(X),c(Y,Z))":         {"RLRLRL", "LRLRLR", "BBBBBB"},
		"c(X|Y,ref~3(Z))|m(0&1)": {"LLLLRLRRRLL", "RRRRLRLLLRR", "BBBBBBBBBBB"},
		"none(X,m(Y))":           {"BBBL", "BBBR", "BBBB"},
		"none~1(X)":              {"BL", "BR", "BB"},
		"none":                   {"L", "R", "B"},
		"p(X,Y)":                 {"BBL", "BBR", "BBB"},
		"c(X)":                   {"BL", "BR", "BB"},
		"c(X,Y,Z)":               {"BBBL", "BBBR", "BBBB"},
		"a(X)":                   {"BL", "BR", "BB"},
		"c":                      {"L", "R", "B"},
		"a~1(X)":                 {"BL", "BR", "BB"},
		"c~2(X)":                 {"RL", "LR", "BB"},
		"c~3(X)":                 {"BL", "BR", "BB"},
		"full~1(X|c(Y))":         {"LBLLL", "RBRRR", "BBBBB"},
		"m(none(m(X)),Y)":        {"BBBBL", "BBBBR", "BBBBB"},
		"m(none(m(X)))":          {"BBRL", "BBLR", "BBBB"},
	} {
		for i, on := range []byte{'L', 'R', 'B'} {
			if got := string(side.Of(row(), nodes(t, s), on)); got != want[i] {
				t.Errorf("%s on %c: %s, not %s", s, on, got, want[i])
			}
		}
	}
	if got := side.Of([]api.Sig{{Name: "c", Args: "-"}}, nodes(t, "c(X)"), 'L'); string(got) != "RL" {
		t.Errorf("the document's example: %s", got)
	}
	if got := side.Of(nil, nodes(t, "c(X)|m"), 'R'); string(got) != "BRRR" {
		t.Errorf("without constructors: %s", got)
	}
}

// TestSideBytes (P8.1, P8.2): each byte that is none of the three counts as B.
func TestSideBytes(t *testing.T) {
	for i := range 256 {
		b := byte(i)
		for _, s := range []string{"c(X,m(Y))", "p(X|Y)", "m(X|Y)", "p(X&Y)", "m(X&Y)", "e(X)", "c~2(X)", "X"} {
			e, as := nodes(t, s), b
			if b != 'L' && b != 'R' {
				as = 'B'
			}
			if got, want := string(side.Of(row(), e, b)), sides(row(), e, as); got != want {
				t.Errorf("Of %s on byte %d: %s, not %s", s, i, got, want)
			}
			at, why := side.Check(row(), e, b)
			if wantAt, want := check(row(), e, as); at != wantAt || why != want {
				t.Errorf("Check %s on byte %d: %d, %d, not %d, %d", s, i, at, why, wantAt, want)
			}
		}
	}
}

// TestCheck (P8.2): what may stand, and each error, at its place: the first node by its place, and of that the first error.
func TestCheck(t *testing.T) {
	for _, c := range []struct {
		s   string
		on  byte
		at  int
		why api.Errno
	}{
		{"X", 'L', 0, api.OK}, {"X", 'R', 0, api.OK}, {"X", 'B', 0, api.OK},
		{"0", 'B', 0, api.OK}, {"1", 'B', 0, api.OK}, {"a", 'B', 0, api.OK},
		{"c(X,m(e(1)))", 'L', 0, api.OK}, {"c(X,m(e(1)))", 'R', 0, api.OK}, {"c(X,m(e(1)))", 'B', 0, api.OK},

		// unions on L alone
		{"X|Y", 'L', 0, api.OK}, {"X|Y", 'R', 2, api.ErrSide}, {"X|Y", 'B', 2, api.ErrSide},
		{"p(X|Y)", 'L', 0, api.OK}, {"p(X|Y)", 'R', 2, api.ErrSide}, {"p(X|Y)", 'B', 2, api.ErrSide},
		{"m(X|Y)", 'R', 0, api.OK}, {"m(X|Y)", 'L', 2, api.ErrSide}, {"m(X|Y)", 'B', 2, api.ErrSide},
		{"e(X|Y)", 'L', 2, api.ErrSide}, {"e(X|Y)", 'R', 2, api.ErrSide},
		{"m~1(X|Y)", 'R', 0, api.OK}, {"p~1(X|Y)", 'R', 2, api.ErrSide},

		// intersections on R alone
		{"X&Y", 'R', 0, api.OK}, {"X&Y", 'L', 2, api.ErrSide}, {"X&Y", 'B', 2, api.ErrSide},
		{"p(X&Y)", 'R', 0, api.OK}, {"p(X&Y)", 'L', 2, api.ErrSide},
		{"m(X&Y)", 'L', 0, api.OK}, {"m(X&Y)", 'R', 2, api.ErrSide}, {"m(X&Y)", 'B', 2, api.ErrSide},
		{"e(X&Y)", 'L', 2, api.ErrSide}, {"e(X&Y)", 'R', 2, api.ErrSide},

		// projections on R alone
		{"c~2(X)", 'R', 0, api.OK}, {"c~2(X)", 'L', 1, api.ErrSide}, {"c~2(X)", 'B', 1, api.ErrSide},
		{"m(c~2(X))", 'L', 0, api.OK}, {"m(c~2(X))", 'R', 1, api.ErrSide}, {"e(c~1(X))", 'R', 1, api.ErrSide},
		{"p~1(p~1(X))", 'R', 0, api.OK}, {"m~1(p~1(X))", 'R', 1, api.ErrSide}, {"e~1(p~1(X))", 'R', 1, api.ErrSide},
		{"m~1(m(p~1(X)))", 'R', 0, api.OK},

		// names
		{"none", 'L', 0, api.ErrName}, {"none", 'B', 0, api.ErrName}, {"none(X)", 'L', 1, api.ErrName},
		{"none~1(X)", 'R', 1, api.ErrName}, {"none~1(X)", 'L', 1, api.ErrName},
		{"p(X|none)", 'L', 1, api.ErrName}, {"cc(X,Y)", 'L', 2, api.ErrName}, {"re", 'L', 0, api.ErrName},

		// how many parts: exactly so many, or, of a projection, at least
		{"c", 'L', 0, api.ErrArity}, {"c(X)", 'L', 1, api.ErrArity}, {"c(X,Y,Z)", 'L', 3, api.ErrArity}, {"a(X)", 'B', 1, api.ErrArity},
		{"a~1(X)", 'R', 1, api.ErrArity}, {"p~2(X)", 'R', 1, api.ErrArity}, {"ref~3(X)", 'R', 0, api.OK}, {"ref~4(X)", 'R', 1, api.ErrArity},
		{"ref~1(X)", 'R', 0, api.OK}, {"full~8(X)", 'R', 0, api.OK}, {"ref~8(X)", 'R', 1, api.ErrArity},
		{"full(1,1,1,1,1,1,1,1)", 'L', 0, api.OK}, {"full(1,1,1,1,1,1,1)", 'L', 7, api.ErrArity},

		// of one node, which comes first
		{"ref~4(X)", 'L', 1, api.ErrArity}, {"ref~4(X)", 'B', 1, api.ErrArity}, {"none~4(X)", 'L', 1, api.ErrName},

		// of several nodes, which stands first; parts of what isn't known are on B
		{"none|c", 'R', 0, api.ErrName}, {"c|none", 'R', 0, api.ErrArity}, {"c(X|Y,none)", 'R', 2, api.ErrSide}, {"c(X|Y,none)", 'L', 3, api.ErrName},
		{"none(X|Y)", 'L', 2, api.ErrSide}, {"none(X|Y)", 'R', 2, api.ErrSide}, {"none(X&Y)", 'R', 2, api.ErrSide}, {"none~1(X&Y)", 'R', 2, api.ErrSide},
		{"c(X|Y)", 'L', 2, api.ErrSide}, {"c(p~1(X))", 'R', 1, api.ErrSide}, {"c~3(X&Y)", 'R', 2, api.ErrSide}, {"c~2(X&Y)", 'R', 2, api.ErrSide},
		{"(X&Y)|Z", 'L', 2, api.ErrSide}, {"(X|Y)&Z", 'R', 2, api.ErrSide}, {"(X&Y)|Z", 'R', 4, api.ErrSide}, {"(X|Y)&Z", 'L', 4, api.ErrSide},
		{"X|Y|Z", 'R', 2, api.ErrSide}, {"X&Y&c~1(Z)", 'R', 0, api.OK}, {"X|Y|c~1(Z)", 'L', 4, api.ErrSide},
	} {
		at, why := side.Check(row(), nodes(t, c.s), c.on)
		if at != c.at || why != c.why {
			t.Errorf("%s on %c: %d, %d, not %d, %d", c.s, c.on, at, why, c.at, c.why)
		}
	}
	if at, why := side.Check(nil, nodes(t, "X|c"), 'L'); at != 1 || why != api.ErrName {
		t.Errorf("without constructors: %d, %d", at, why)
	}
	if at, why := side.Check(nil, nodes(t, "X|0|1"), 'L'); at != 0 || why != api.OK {
		t.Errorf("without constructors: %d, %d", at, why)
	}
}

// TestCheckArity (P8.2): all arities, and as many parts as may be, whichever stands where in the row.
func TestCheckArity(t *testing.T) {
	for i := range api.MaxArity + 1 {
		s := api.Sig{Name: "f", Args: "+-=-+=--"[:i]}
		for _, l := range [][]api.Sig{{s}, append(row(), s), append([]api.Sig{s}, row()...)} {
			for n := range api.MaxArity + 1 {
				e := append(slices.Repeat([]api.Node{zero}, n), con("f", n))
				wantAt, want := n, api.ErrArity
				if n == i {
					wantAt, want = 0, api.OK
				}
				if at, why := side.Check(l, e, 'L'); at != wantAt || why != want {
					t.Errorf("%s of %d parts: %d, %d", s.Args, n, at, why)
				}
				if n == 0 {
					continue
				}
				wantAt, want = 1, api.ErrArity
				if n <= i {
					wantAt, want = 0, api.OK
				}
				if at, why := side.Check(l, []api.Node{zero, proj("f", n)}, 'R'); at != wantAt || why != want {
					t.Errorf("%s, part %d: %d, %d", s.Args, n, at, why)
				}
			}
		}
	}
}

// checkWords holds Of and Check, on all sides, against the document's words.
func checkWords(t *testing.T, l []api.Sig, e []api.Node) (errors map[api.Errno]int) {
	t.Helper()
	errors = map[api.Errno]int{}
	for _, on := range []byte{'L', 'R', 'B', 0} {
		if got, want := string(side.Of(l, e, on)), sides(l, e, on); got != want {
			t.Fatalf("Of %s on %c: %s, not %s", expr.Text(e), on, got, want)
		}
		at, why := side.Check(l, e, on)
		if wantAt, want := check(l, e, on); at != wantAt || why != want {
			t.Fatalf("Check %s on %c: %d, %d, not %d, %d", expr.Text(e), on, at, why, wantAt, want)
		}
		errors[why]++
	}
	return errors
}

// TestAll (P8.1, P8.2): all right rows of up to five nodes, of fifteen sorts, against the document's words.
func TestAll(t *testing.T) {
	sorts := []api.Node{
		zero, variable("X"), union, inter,
		con("a", 0), con("p", 1), con("m", 1), con("e", 1), con("c", 2), con("c", 1), con("none", 1),
		proj("m", 1), proj("c", 1), proj("c", 3), proj("none", 1),
	}
	many, errors := 0, map[api.Errno]int{}
	var all func(l []api.Node)
	all = func(l []api.Node) {
		if expr.Right(l) {
			many++
			for why, n := range checkWords(t, row(), l) {
				errors[why] += n
			}
		}
		if len(l) == 5 {
			return
		}
		for _, n := range sorts {
			all(append(l, n))
		}
	}
	all(nil)
	if many < 10000 {
		t.Errorf("%d rows only", many)
	}
	for _, why := range []api.Errno{api.OK, api.ErrName, api.ErrArity, api.ErrSide} {
		if errors[why] < 1000 {
			t.Errorf("error %d: %d times only", why, errors[why])
		}
	}
}

// TestChance (P8.1, P8.2, P8.3): long rows by chance, against the document's words.
func TestChance(t *testing.T) {
	for seed := range 4000 {
		r := rand.New(rand.NewSource(int64(seed)))
		e := chance(r, 1+r.Intn(60), seed%2 == 0)
		checkWords(t, row(), e)
		var want []string
		for _, n := range e {
			if n.Kind == api.Var && !slices.Contains(want, n.Name) {
				want = append(want, n.Name)
			}
		}
		if got := side.Vars(e); !slices.Equal(got, want) {
			t.Fatalf("Vars of %s: %v, not %v", expr.Text(e), got, want)
		}
	}
}

// TestVars (P8.3): each once, in the order in which they first stand; constructors' names are none.
func TestVars(t *testing.T) {
	for s, want := range map[string]string{
		"0":                             "",
		"1|a":                           "",
		"x":                             "",
		"X":                             "X",
		"X|X":                           "X",
		"Y|X":                           "Y X",
		"Y&X&Y&Z":                       "Y X Z",
		"c(X|0,d~2(Y))":                 "X Y",
		"c(d(Z,Y),Y,X,Z)":               "Z Y X",
		"x(X,xX,Xx,X_,X1,X)":            "X Xx X_ X1",
		"none~8(B|(A|B|c(A)))":          "B A",
		"AAAAAbbbbbcccccddddd|A":        "AAAAAbbbbbcccccddddd A",
		"c(A,B,C,D,E,F,G,H)|(H|G|F|I)":  "A B C D E F G H I",
		"d(d(d(C)))|(d(B)&(A|(B&C&D)))": "C B A D",
	} {
		if got := strings.Join(side.Vars(nodes(t, s)), " "); got != want {
			t.Errorf("%s: %s, not %s", s, got, want)
		}
	}
}

// TestFollows (P8.4): what may stand on both sides may stand on each; parts of what may stand somewhere may stand on their sides.
func TestFollows(t *testing.T) {
	may := map[byte]int{}
	for seed := range 20000 {
		r := rand.New(rand.NewSource(int64(seed)))
		e := chance(r, 1+r.Intn(10), true)
		for _, on := range []byte{'L', 'R', 'B'} {
			if _, why := side.Check(row(), e, on); why != api.OK {
				continue
			}
			may[on]++
			starts := expr.Starts(e)
			for at, s := range side.Of(row(), e, on) {
				if _, why := side.Check(row(), e[starts[at]:at+1], s); why != api.OK {
					t.Fatalf("%s on %c: node %d on %c: %d", expr.Text(e), on, at, s, why)
				}
			}
			if on != 'B' {
				continue
			}
			for _, each := range []byte{'L', 'R'} {
				if _, why := side.Check(row(), e, each); why != api.OK {
					t.Fatalf("%s on %c: %d", expr.Text(e), each, why)
				}
			}
		}
	}
	if may['L'] < 1000 || may['R'] < 1000 || may['B'] < 1000 {
		t.Errorf("too few that may stand: %v", may)
	}
}

// TestMemory (R3, R4): what is handed in stays as it is; answers share nothing with it, nor with each other.
func TestMemory(t *testing.T) {
	l, e := row(), nodes(t, "c(X|Y,ref~3(Z))|m(X&Y)")
	wasL, wasE := slices.Clone(l), slices.Clone(e)
	first, vars := side.Of(l, e, 'L'), side.Vars(e)
	keep, keepVars := slices.Clone(first), slices.Clone(vars)
	at, why := side.Check(l, e, 'L')
	for i := range 3 {
		again, more := side.Of(l, e, 'L'), side.Vars(e)
		if !slices.Equal(again, keep) || !slices.Equal(more, keepVars) {
			t.Errorf("time %d: %s, %v", i, again, more)
		}
		if atNow, whyNow := side.Check(l, e, 'L'); atNow != at || whyNow != why {
			t.Errorf("time %d: %d, %d", i, atNow, whyNow)
		}
		clear(again[:cap(again)])
		clear(more[:cap(more)])
	}
	if !slices.Equal(first, keep) || !slices.Equal(vars, keepVars) || !sig.Same(l, wasL) || !expr.Same(e, wasE) {
		t.Errorf("%s, %v, %v, %v", first, vars, l, e)
	}
}

// TestWrong (R1): rows of constructors, and of nodes, that aren't right, of which nothing is promised but that the calls end.
func TestWrong(t *testing.T) {
	sigs := [][]api.Sig{nil, row(), {{Name: "c", Args: "+"}, {Name: "c", Args: "--"}}, {{Name: "c", Args: "xy\x00"}, {}}, {{Name: "c", Args: strings.Repeat("-", 300)}}, {{Name: "X", Args: "+"}, {Name: "", Args: "="}}}
	wrong := []api.Node{
		{}, one, variable("X"), variable("c"), variable(""), union, inter, {Kind: api.Union}, {Kind: api.Inter, N: 9}, {Kind: 7}, {Kind: -1, N: 5},
		con("c", 0), con("c", 2), con("c", 300), con("c", -1), con("", 1), con("c", 1<<63-1), con("c", -1<<63), con("X", 1),
		proj("c", 0), proj("c", 1), proj("c", -1), proj("c", -1<<63), proj("c", 1<<63-1), proj("c", 300), proj("", 1), proj("a", 0),
	}
	r := rand.New(rand.NewSource(1))
	for range 50000 {
		var e []api.Node
		for range r.Intn(9) {
			e = append(e, wrong[r.Intn(len(wrong))])
		}
		l, on := sigs[r.Intn(len(sigs))], []byte{'L', 'R', 'B', 0}[r.Intn(4)]
		for _, b := range side.Of(l, e, on) {
			if !strings.ContainsRune("LRB", rune(b)) {
				t.Fatalf("Of(%v, %v, %c): %d", l, e, on, b)
			}
		}
		if at, _ := side.Check(l, e, on); at < 0 || at > len(e) || len(side.Of(l, e, on)) != len(e) {
			t.Fatalf("Check(%v, %v, %c): %d", l, e, on, at)
		}
		side.Vars(e)
	}
	at, why := side.Check(row(), nil, 'L')
	if len(side.Of(row(), nil, 'L')) != 0 || at != 0 || why != api.OK || len(side.Vars(nil)) != 0 {
		t.Error("of no nodes")
	}
}

// TestLarge (R1): many nodes, many variables, a full row of constructors, and as many brackets as may be.
func TestLarge(t *testing.T) {
	const many = 1 << 17
	e, names := []api.Node{variable("X")}, []string{"X"}
	for i := range many {
		names = append(names, "X"+strconv.Itoa(i))
		e = append(e, variable(names[len(names)-1]), union)
	}
	if got := side.Of(nil, e, 'L'); string(got) != strings.Repeat("L", len(e)) {
		t.Error("many: Of")
	}
	if at, why := side.Check(nil, e, 'L'); at != 0 || why != api.OK {
		t.Errorf("many, on L: %d, %d", at, why)
	}
	if at, why := side.Check(nil, e, 'R'); at != 2 || why != api.ErrSide {
		t.Errorf("many, on R: %d, %d", at, why)
	}
	if got := side.Vars(append(e, e...)); !slices.Equal(got, names) {
		t.Errorf("many: %d names", len(got))
	}

	var l []api.Sig
	for i := range api.MaxSigs {
		l = append(l, api.Sig{Name: "k" + strconv.Itoa(i), Args: strings.Repeat("-", 1+i%8)})
	}
	deep := []api.Node{variable("X"), variable("Y"), inter}
	for i := range api.MaxDepth {
		deep = append(deep, proj("k63", 1+i%8))
	}
	if !sig.Right(l) || !expr.Right(deep) {
		t.Fatal("not right")
	}
	if got, want := string(side.Of(l, deep, 'R')), "RRR"+strings.Repeat("LR", api.MaxDepth/2); got != want {
		t.Errorf("deep: %s, not %s", got, want)
	}
	if at, why := side.Check(l, deep, 'R'); at != 3 || why != api.ErrSide {
		t.Errorf("deep: %d, %d", at, why)
	}
}
