package load_test

import (
	"math"
	"math/rand"
	"slices"
	"strconv"
	"strings"
	"testing"

	"tammy/api"
	"tammy/expr"
	"tammy/hash"
	"tammy/load"
	"tammy/sig"
	"tammy/term"
)

// TestNamed (P9.1): each a variable's name, none twice.
func TestNamed(t *testing.T) {
	long := "AAAAAbbbbbcccccddddd"
	var many []string
	for i := range 100000 {
		many = append(many, "V"+strconv.Itoa(i))
	}
	for _, l := range [][]string{nil, {}, {"X"}, {"X", "Y"}, {"Y", "X", "XY", "X_", "X0", "Xx"}, {long}, {long, long[:19]}, many} {
		if !load.Named(l) {
			t.Errorf("no: %.60q", l)
		}
	}
	for _, l := range [][]string{
		{""}, {"x"}, {"_"}, {"1"}, {"X", ""}, {"X", "y"}, {"y", "X"}, {"X Y"}, {"X-"}, {"X\x00"}, {" X"}, {"Ä"}, {"XÄ"}, {long + "e"}, {"X", "Y", "0"},
		{"X", "X"}, {"X", "Y", "X"}, {"X", "Y", "Y"}, {"X", "X", "Y"}, {long, "X", long},
		append(slices.Clone(many), many[0]), append(slices.Clone(many), many[99999]), append(slices.Clone(many), "v"),
	} {
		if load.Named(l) {
			t.Errorf("yes: %.60q", l)
		}
	}
	for i := range 256 {
		first, second := string([]byte{byte(i)}), "X"+string([]byte{byte(i)})
		if load.Named([]string{first}) != sig.IsVar(first) || load.Named([]string{"Y", second}) != sig.IsVar(second) {
			t.Errorf("byte %d", i)
		}
	}
}

// TestLoad (P9.1): ordinary expressions, into the store of Zero and One: all terms, in order, the names, and the last one's place.
func TestLoad(t *testing.T) {
	for s, want := range map[string]struct {
		terms, names string
		id           int
	}{
		"0":                        {"", "", 0},
		"1":                        {"", "", 1},
		"X":                        {"V0", "X", 2},
		"a":                        {"c0", "", 2},
		"c(X)":                     {"V0 c1(2)", "X", 3},
		"c(1)":                     {"c1(1)", "", 2},
		"d(X,Y)":                   {"V0 V1 c2(2,3)", "X Y", 4},
		"d(Y,X)":                   {"V0 V1 c2(2,3)", "Y X", 4},
		"d(X,X)":                   {"V0 c2(2,2)", "X", 3},
		"d(0,1)":                   {"c2(0,1)", "", 2},
		"X|Y":                      {"V0 V1 |(2,3)", "X Y", 4},
		"X&Y":                      {"V0 V1 &(2,3)", "X Y", 4},
		"X|Y|X":                    {"V0 V1 |(2,3) |(4,2)", "X Y", 5},
		"X|(Y|X)":                  {"V0 V1 |(3,2) |(2,4)", "X Y", 5},
		"(X|Y)|(X|Y)":              {"V0 V1 |(2,3) |(4,4)", "X Y", 5},
		"(X|Y)&(Y|X)":              {"V0 V1 |(2,3) |(3,2) &(4,5)", "X Y", 6},
		"c~1(X)":                   {"V0 r1.0(2)", "X", 3},
		"d~1(X)":                   {"V0 r2.0(2)", "X", 3},
		"d~2(X)":                   {"V0 r2.1(2)", "X", 3},
		"ref~1(X)":                 {"V0 r3.0(2)", "X", 3},
		"ref~3(X)":                 {"V0 r3.2(2)", "X", 3},
		"full~8(0)":                {"r4.7(0)", "", 2},
		"ref(X,Y,a)":               {"V0 V1 c0 c3(2,3,4)", "X Y", 5},
		"full(X,Y,Z,X,1,0,a,c(a))": {"V0 V1 V2 c0 c1(5) c4(2,3,4,2,1,0,5,6)", "X Y Z", 7},
		"c(X|0)&d~2(Y)":            {"V0 |(2,0) c1(3) V1 r2.1(5) &(4,6)", "X Y", 7},
		"c(c(c(X)))":               {"V0 c1(2) c1(3) c1(4)", "X", 5},
		"c(X)|c(X)":                {"V0 c1(2) |(3,3)", "X", 4},
	} {
		a, names, id, e := load.Load(row(), term.New(), nil, nodes(t, s), noLimit)
		if e != api.OK || told(t, a) != want.terms || strings.Join(names, " ") != want.names || id != want.id || !term.Right(row(), a) {
			t.Errorf("%s: %s, %v, %d, %d", s, told(t, a), names, id, e)
		}
	}
	// The document's example.
	a, names, id, e := load.Load([]api.Sig{{Name: "c", Args: "+"}}, term.New(), nil, nodes(t, "c(X)"), api.MaxTerms)
	if e != api.OK || told(t, a) != "V0 c0(2)" || len(names) != 1 || names[0] != "X" || id != 3 {
		t.Errorf("c(X): %s, %v, %d, %d", told(t, a), names, id, e)
	}
}

// TestLoadThere (P9.1): into stores, and behind names, that have some already.
func TestLoadThere(t *testing.T) {
	a, names, _ := mustLoad(t, row(), term.New(), []string{"X", "Y"}, "d(Y,c(0))")
	if got := told(t, a); got != "V1 c1(0) c2(2,3)" || !slices.Equal(names, []string{"X", "Y"}) {
		t.Fatalf("%s, %v", got, names)
	}
	for _, c := range []struct {
		s, terms, names string
		id              int
	}{
		{"Y", "", "X Y", 2},
		{"c(0)", "", "X Y", 3},
		{"d(Y,c(0))", "", "X Y", 4},
		{"X", "V0", "X Y", 5},
		{"d(X,c(0))", "V0 c2(5,3)", "X Y", 6},
		{"Z", "V2", "X Y Z", 5},
		{"W|Z|Y", "V2 V3 |(5,6) |(7,2)", "X Y W Z", 8},
		{"c~1(Y)", "r1.0(2)", "X Y", 5},
		{"1", "", "X Y", 1},
	} {
		got, more, id, e := load.Load(row(), a, names, nodes(t, c.s), noLimit)
		want := strings.TrimSpace("V1 c1(0) c2(2,3) " + c.terms)
		if e != api.OK || told(t, got) != want || strings.Join(more, " ") != c.names || id != c.id || !term.Right(row(), got) {
			t.Errorf("%s: %s, %v, %d, %d", c.s, told(t, got), more, id, e)
		}
	}

	// A variable may be in the store ahead of its name being in the row; then its name finds it.
	far, _ := mustPut(t, row(), term.New(), api.Term{Kind: api.Var, Sym: 7})
	far, _ = mustPut(t, row(), far, api.Term{Kind: api.Var, Sym: 1})
	got, more, id, e := load.Load(row(), far, []string{"A"}, nodes(t, "c(B)"), noLimit)
	if e != api.OK || told(t, got) != "V7 V1 c1(3)" || !slices.Equal(more, []string{"A", "B"}) || id != 4 {
		t.Errorf("c(B): %s, %v, %d, %d", told(t, got), more, id, e)
	}
	// And a name may be in the row without its variable being in the store.
	got, more, id, e = load.Load(row(), term.New(), []string{"A", "B", "C"}, nodes(t, "C|A|D"), noLimit)
	if e != api.OK || told(t, got) != "V2 V0 |(2,3) V3 |(4,5)" || !slices.Equal(more, []string{"A", "B", "C", "D"}) || id != 6 {
		t.Errorf("C|A|D: %s, %v, %d, %d", told(t, got), more, id, e)
	}
}

// isAsWas: with an error, the store and the names are as they were, and the place is 0.
func isAsWas(a, was api.Keyed, names, wereNames []string, id int) bool {
	return hash.Same(a, was) && slices.Equal(names, wereNames) && id == 0
}

// TestLoadErrors (P9.1): constructors that aren't known; of several errors that of the first node.
func TestLoadErrors(t *testing.T) {
	a, names, _ := mustLoad(t, row(), term.New(), []string{"X"}, "c(X)")
	has := len(a.Keys)
	for _, c := range []struct {
		s     string
		limit int
		e     api.Errno
	}{
		// names
		{"none", noLimit, api.ErrArg}, {"none(X)", noLimit, api.ErrArg}, {"none~1(X)", noLimit, api.ErrArg}, {"re", noLimit, api.ErrArg}, {"cc(X)", noLimit, api.ErrArg},
		{"c(none)", noLimit, api.ErrArg}, {"X|none", noLimit, api.ErrArg}, {"none|X", noLimit, api.ErrArg}, {"d(Y,none(Z))", noLimit, api.ErrArg},
		// how many parts: exactly so many, or, of a projection, at least
		{"c", noLimit, api.ErrArg}, {"c(X,X)", noLimit, api.ErrArg}, {"a(X)", noLimit, api.ErrArg}, {"d(X)", noLimit, api.ErrArg}, {"d(X,X,X)", noLimit, api.ErrArg},
		{"a~1(X)", noLimit, api.ErrArg}, {"c~2(X)", noLimit, api.ErrArg}, {"ref~4(X)", noLimit, api.ErrArg}, {"d~8(X)", noLimit, api.ErrArg},
		{"full(0,0,0,0,0,0,0)", noLimit, api.ErrArg}, {"c~1(X)", noLimit, api.OK}, {"full~1(X)", noLimit, api.OK}, {"full~8(X)", noLimit, api.OK},
		// room
		{"Y", has, api.ErrFull}, {"X", has, api.OK}, {"X", 0, api.OK}, {"c(X)", -1, api.OK}, {"0", math.MinInt, api.OK}, {"c(Y)", has + 1, api.ErrFull}, {"c(Y)", has + 2, api.OK}, {"Y", math.MinInt, api.ErrFull},
		{"c(c(X))", has, api.ErrFull}, {"c(c(X))", has + 1, api.OK}, {"X|X", has, api.ErrFull}, {"c~1(X)", has, api.ErrFull}, {"a", has, api.ErrFull}, {"a", has + 1, api.OK},
		// which comes first
		{"Y|none", has, api.ErrFull}, {"none|Y", has, api.ErrArg}, {"Y|none", has + 1, api.ErrArg}, {"none(Y)", has, api.ErrFull}, {"none(Y)", has + 1, api.ErrArg}, {"none", 0, api.ErrArg},
		{"d(Y,c(X,X))", has, api.ErrFull}, {"d(X,c(X,X))", has, api.ErrArg}, {"c~2(Y)", has, api.ErrFull}, {"c~2(X)", has, api.ErrArg}, {"none(X)|Y", 0, api.ErrArg}, {"c(c)", 0, api.ErrArg},
	} {
		got, more, id, e := load.Load(row(), a, names, nodes(t, c.s), c.limit)
		if e != c.e || e != api.OK && !isAsWas(got, a, more, names, id) {
			t.Errorf("%s within %d: %s, %v, %d, %d", c.s, c.limit, told(t, got), more, id, e)
		}
	}
	if got, more, id, e := load.Load(nil, a, nil, nodes(t, "Y|a"), noLimit); e != api.ErrArg || !isAsWas(got, a, more, nil, id) {
		t.Errorf("without constructors: %s, %v, %d, %d", told(t, got), more, id, e)
	}
}

// TestArity (P9.1): all arities, and as many parts as may be, whichever stands where in the row.
func TestArity(t *testing.T) {
	for i := range api.MaxArity + 1 {
		s := api.Sig{Name: "f", Args: "+-=-+=--"[:i]}
		for _, l := range [][]api.Sig{{s}, append(row(), s), append([]api.Sig{s}, row()...)} {
			at := sig.Find(l, "f")
			for n := range api.MaxArity + 1 {
				x, want := api.Term{Kind: api.Con, Sym: at, Args: make([]int, n)}, api.ErrArg
				if n == i {
					want = api.OK
				}
				checkOne(t, l, append(slices.Repeat([]api.Node{zero}, n), con("f", n)), x, want)
				if n == 0 {
					continue
				}
				x, want = api.Term{Kind: api.Proj, Sym: at, Part: n - 1, Args: []int{1}}, api.ErrArg
				if n <= i {
					want = api.OK
				}
				checkOne(t, l, []api.Node{one, proj("f", n)}, x, want)
			}
		}
	}
}

// checkOne loads a constructor's node, and its parts 0 or 1, into the store of these.
func checkOne(t *testing.T, l []api.Sig, e []api.Node, want api.Term, why api.Errno) {
	t.Helper()
	a, _, id, got := load.Load(l, term.New(), nil, e, noLimit)
	x, _ := term.Of(a, id)
	if got != why || why == api.OK && (id != 2 || !term.Same(x, want)) || why != api.OK && !isAsWas(a, term.New(), nil, nil, id) {
		t.Errorf("%s: %v, %d, %d", expr.Text(e), x, id, got)
	}
}

// TestLimits (P9.1): each limit, at each expression: the error is that of the first node for which there is no room.
func TestLimits(t *testing.T) {
	for _, s := range []string{"0", "X", "c(X|0)&d~2(Y)", "full(X,Y,Z,X,1,0,a,c(a))", "X|X|X|none", "c(X)|none|c(c(X))"} {
		for limit := -2; limit < 14; limit++ {
			checkWords(t, term.New(), nil, nodes(t, s), limit)
			a, names, _ := mustLoad(t, row(), term.New(), nil, "c(Y)|X")
			checkWords(t, a, names, nodes(t, s), limit)
		}
	}
}

// checkWords holds Load against the document's words.
func checkWords(t *testing.T, a api.Keyed, names []string, e []api.Node, limit int) (api.Keyed, []string, int, api.Errno) {
	t.Helper()
	got, more, id, why := load.Load(row(), a, names, e, limit)
	wantA, wantMore, wantID, want := secondLoad(row(), a, names, e, limit)
	if !hash.Same(got, wantA) || !slices.Equal(more, wantMore) || id != wantID || why != want {
		t.Fatalf("%s within %d: %s, %v, %d, %d, not %s, %v, %d, %d", expr.Text(e), limit, told(t, got), more, id, why, told(t, wantA), wantMore, wantID, want)
	}
	return got, more, id, why
}

// TestAll (P9.1): all right rows of up to five nodes, of thirteen sorts, against the document's words.
func TestAll(t *testing.T) {
	sorts := []api.Node{
		zero, variable("X"), variable("Y"), union, inter,
		con("a", 0), con("c", 1), con("d", 2), con("d", 1), con("none", 0),
		proj("c", 1), proj("d", 2), proj("d", 3),
	}
	start, names, _ := mustLoad(t, row(), term.New(), []string{"W", "Y"}, "c(Y)")
	many, errors := 0, map[api.Errno]int{}
	var all func(l []api.Node)
	all = func(l []api.Node) {
		if expr.Right(l) {
			many++
			for _, limit := range []int{6, noLimit} {
				_, _, _, e := checkWords(t, start, names, l, limit)
				errors[e]++
			}
		}
		if len(l) == 5 {
			return
		}
		for _, n := range sorts {
			all(append(l, n))
		}
	}
	all(nil)
	if many < 10000 || errors[api.OK] < 1000 || errors[api.ErrArg] < 1000 || errors[api.ErrFull] < 1000 {
		t.Errorf("%d rows only: %v", many, errors)
	}
}

// TestChance (P9.1, P9.2, P9.3): long expressions by chance, one after the other into one store, against the document's words: what comes out is a store, and a row that may be; all that was there stays; the nodes of a loaded expression are that expression.
func TestChance(t *testing.T) {
	loaded, errors := 0, map[api.Errno]int{}
	for seed := range 600 {
		r := rand.New(rand.NewSource(int64(seed)))
		a, names := term.New(), []string{"Q", "X"}[:r.Intn(3)]
		for range 6 {
			e, limit := chance(r, 1+r.Intn(40), seed%3 > 0), noLimit
			if r.Intn(3) == 0 {
				limit = len(a.Keys) + r.Intn(20)
			}
			wasA, wasNames := clone(a), slices.Clone(names)
			more, moreNames, id, why := checkWords(t, a, names, e, limit)
			errors[why]++
			if !hash.Same(a, wasA) || !slices.Equal(names, wasNames) {
				t.Fatalf("%s: what was handed in is changed", expr.Text(e))
			}
			if !term.Right(row(), more) || !load.Named(moreNames) {
				t.Fatalf("%s: %s, %v", expr.Text(e), told(t, more), moreNames)
			}
			if !slices.EqualFunc(more.Keys[:len(a.Keys)], a.Keys, slices.Equal[[]int]) || !slices.Equal(moreNames[:len(names)], names) {
				t.Fatalf("%s: what was there doesn't stay: %s, %v", expr.Text(e), told(t, more), moreNames)
			}
			a, names = more, moreNames
			if why != api.OK {
				continue
			}
			loaded++
			if got, n := load.Nodes(row(), a, names, id); n != api.OK || !expr.Same(got, e) {
				t.Fatalf("%s: %v, %d", expr.Text(e), got, n)
			}
			if got := load.Text(row(), a, names, id); got != expr.Text(e) {
				t.Fatalf("%s: %s", expr.Text(e), got)
			}
		}
		checkAllNodes(t, a, names)
	}
	if loaded < 1000 || errors[api.ErrArg] < 100 || errors[api.ErrFull] < 100 {
		t.Errorf("%d loaded, %v", loaded, errors)
	}
}

// TestWrong (R1): rows, stores and nodes that aren't right, of which nothing is promised but that the calls end.
func TestWrong(t *testing.T) {
	sigs := [][]api.Sig{nil, row(), {{Name: "c", Args: "+"}, {Name: "c", Args: "--"}}, {{Name: "c", Args: "xy\x00"}, {}}, {{Name: "c", Args: strings.Repeat("-", 300)}}, {{Name: "X", Args: "+"}, {Name: "", Args: "="}}}
	stores := []api.Keyed{{}, term.New(), {Keys: [][]int{{}, {2}, {2, 0, 0}}}, {Keys: [][]int{{4, 0, 0, 1, 2}, {3, 9, 0, 0}, {6, -1, -1, 5}, {2, -5, 0}, {9, 9, 9, 9}}, Slots: []int{1, -4, 99}},
		{Keys: [][]int{{0, 0, 0}, {1, 0, 0}, {4, 0, 0, 2, 3}, {5, 0, 0, -1, 1 << 62}, {3, 0, 0, 2}, {6, 0, math.MaxInt, 1}, {0, 0, 0, 1, 1}}, Slots: make([]int, 16)}}
	names := [][]string{nil, {"X", "Y"}, {"X", "X"}, {"", "x"}}
	wrong := []api.Node{
		{}, one, variable("X"), variable("c"), variable(""), union, inter, {Kind: api.Union}, {Kind: api.Inter, N: 9}, {Kind: 7}, {Kind: -1, N: 5}, {Kind: api.Zero, Name: "X", N: 3},
		con("c", 0), con("c", 1), con("c", 2), con("c", 300), con("c", -1), con("", 1), con("c", math.MaxInt), con("c", math.MinInt), con("X", 1),
		proj("c", 0), proj("c", 1), proj("c", -1), proj("c", math.MinInt), proj("c", math.MaxInt), proj("c", 300), proj("", 1), proj("a", 0),
	}
	r := rand.New(rand.NewSource(1))
	for range 50000 {
		var e []api.Node
		for range r.Intn(9) {
			e = append(e, wrong[r.Intn(len(wrong))])
		}
		l, a, k := sigs[r.Intn(len(sigs))], stores[r.Intn(len(stores))], names[r.Intn(len(names))]
		was := clone(a)
		got, more, id, why := load.Load(l, a, k, e, r.Intn(12)-2)
		if why != api.OK && !isAsWas(got, was, more, k, id) || !hash.Same(a, was) {
			t.Fatalf("Load(%v, %v, %v, %v): %v, %v, %d, %d", l, a, k, e, got, more, id, why)
		}
		for id := -1; id <= len(got.Keys); id++ {
			if n, why := load.Nodes(l, got, more, id); why != api.OK && (len(n) > 0 || load.Text(l, got, more, id) != "") {
				t.Fatalf("Nodes(%v, %v, %v, %d): %v, %d", l, got, more, id, n, why)
			}
		}
	}
}

// TestMemory (R3, R4): what is handed in stays as it is; answers share nothing with it, nor with each other, be there an error or none.
func TestMemory(t *testing.T) {
	l := row()
	a, names, _ := mustLoad(t, l, term.New(), []string{"X"}, "c(X)|Y|Z")
	names = append(make([]string, 0, 20), names...)
	for s, want := range map[string]api.Errno{"d(X,c(W))|V": api.OK, "c(X)": api.OK, "0": api.OK, "W|none": api.ErrArg, "none": api.ErrArg, "a|c(W)|ref(X,Y,Z)|ref~1(Z)": api.ErrFull} {
		e := nodes(t, s)
		wasL, wasA, wasNames, wasE := slices.Clone(l), clone(a), slices.Clone(names), slices.Clone(e)
		firstA, firstNames, firstID, why := load.Load(l, a, names, e, len(a.Keys)+5)
		if why != want {
			t.Fatalf("%s: %d", s, why)
		}
		keepA, keepNames := clone(firstA), slices.Clone(firstNames)
		for i := range 3 {
			againA, againNames, id, e2 := load.Load(l, a, names, e, len(a.Keys)+5)
			if !hash.Same(againA, keepA) || !slices.Equal(againNames, keepNames) || id != firstID || e2 != why {
				t.Errorf("%s, time %d: %s, %v, %d, %d", s, i, told(t, againA), againNames, id, e2)
			}
			wipe(againA)
			clear(againNames[:cap(againNames)])
		}
		if !hash.Same(firstA, keepA) || !slices.Equal(firstNames, keepNames) || !sig.Same(l, wasL) || !hash.Same(a, wasA) || !slices.Equal(names, wasNames) || !expr.Same(e, wasE) {
			t.Errorf("%s: %s, %v, %s, %v, %v", s, told(t, firstA), firstNames, told(t, a), names, e)
		}
		if len(names[:cap(names)][len(names)]) > 0 {
			t.Errorf("%s: a name is laid into the row that was handed in", s)
		}
	}
	wasA, wasNames := clone(a), slices.Clone(names)
	for id := range a.Keys {
		first, _ := load.Nodes(l, a, names, id)
		keep := slices.Clone(first)
		again, _ := load.Nodes(l, a, names, id)
		clear(again[:cap(again)])
		if !expr.Same(first, keep) || !hash.Same(a, wasA) || !slices.Equal(names, wasNames) {
			t.Errorf("Nodes of %d: %v, %s, %v", id, first, told(t, a), names)
		}
	}
}

// TestLarge (R1): many names; an expression of many nodes, of few terms and of many; a full row of constructors.
func TestLarge(t *testing.T) {
	var names []string
	for i := range 1 << 17 {
		names = append(names, "V"+strconv.Itoa(i))
	}
	a, more, id, e := load.Load(row(), term.New(), names, nodes(t, "d(V131071,W)|V65536"), noLimit)
	if e != api.OK || told(t, a) != "V131071 V131072 c2(2,3) V65536 |(4,5)" || id != 6 || len(more) != len(names)+1 || more[len(names)] != "W" {
		t.Errorf("many names: %s, %d names, %d, %d", told(t, a), len(more), id, e)
	}
	if s := load.Text(row(), a, more, id); s != "d(V131071,W)|V65536" {
		t.Errorf("many names: %s", s)
	}

	same := []api.Node{variable("X")}
	for range 5 {
		same = append(slices.Repeat(same, api.MaxArity), con("full", api.MaxArity))
	}
	if a, _, id, e := load.Load(row(), term.New(), nil, same, 8); e != api.OK || id != 7 || len(a.Keys) != 8 {
		t.Errorf("many nodes: %s, %d, %d", told(t, a), id, e)
	}

	chain := []api.Node{variable("X")}
	for i := range 1500 {
		chain = append(chain, variable("X"+strconv.Itoa(i)), union)
	}
	if a, more, id, e := load.Load(nil, term.New(), nil, chain, 3003); e != api.OK || id != 3002 || len(a.Keys) != 3003 || len(more) != 1501 {
		t.Errorf("many terms: %d, %d names, %d, %d", len(a.Keys), len(more), id, e)
	}
	if a, more, id, e := load.Load(nil, term.New(), nil, chain, 3002); e != api.ErrFull || !isAsWas(a, term.New(), more, nil, id) {
		t.Errorf("many terms, no room: %d, %d names, %d, %d", len(a.Keys), len(more), id, e)
	}

	var l []api.Sig
	for i := range api.MaxSigs {
		l = append(l, api.Sig{Name: "k" + strconv.Itoa(i), Args: strings.Repeat("-", 1+i%8)})
	}
	deep := []api.Node{variable("X"), variable("Y"), inter}
	for i := range api.MaxDepth {
		deep = append(deep, proj("k63", 1+i%8))
	}
	a, more, id, e = load.Load(l, term.New(), nil, deep, noLimit)
	if got, why := load.Nodes(l, a, more, id); e != api.OK || why != api.OK || !expr.Same(got, deep) {
		t.Errorf("deep: %d, %d, %d nodes", e, why, len(got))
	}
}
