package load_test

import (
	"math"
	"slices"
	"strconv"
	"strings"
	"testing"

	"tammy/api"
	"tammy/expr"
	"tammy/hash"
	"tammy/load"
	"tammy/term"
)

// checkAllNodes holds Nodes and Text of all places of a store against the document's words, by all fronts of the names.
func checkAllNodes(t *testing.T, a api.Keyed, names []string) {
	t.Helper()
	for many := range len(names) + 1 {
		checkNodes(t, a, names[:many])
	}
}

func checkNodes(t *testing.T, a api.Keyed, names []string) {
	t.Helper()
	for id := range a.Keys {
		s, many, isNamed := secondText(row(), a, names, id)
		want := api.OK
		switch {
		case !isNamed:
			want = api.ErrArg
		case many > api.MaxNodes || deepest(s) > api.MaxDepth:
			want = api.ErrFull
		}
		if want != api.OK {
			s = ""
		}
		n, e := load.Nodes(row(), a, names, id)
		if got := load.Text(row(), a, names, id); e != want || got != s {
			t.Fatalf("%d of %s: %q, %d, not %q, %d", id, told(t, a), got, e, s, want)
		}
		if want != api.OK && len(n) > 0 || want == api.OK && (len(n) != many || expr.Text(n) != s || !expr.Right(n)) {
			t.Fatalf("%d of %s: %v", id, told(t, a), n)
		}
	}
}

// TestNodes (P9.2): ordinary terms, of each kind.
func TestNodes(t *testing.T) {
	for s, want := range map[string][]api.Node{
		"0":           {zero},
		"1":           {one},
		"X":           {variable("X")},
		"a":           {con("a", 0)},
		"c(X)":        {variable("X"), con("c", 1)},
		"d(Y,X)":      {variable("Y"), variable("X"), con("d", 2)},
		"d(X,X)":      {variable("X"), variable("X"), con("d", 2)},
		"X|Y":         {variable("X"), variable("Y"), union},
		"X&Y":         {variable("X"), variable("Y"), inter},
		"X|Y|Z":       {variable("X"), variable("Y"), union, variable("Z"), union},
		"X|(Y|Z)":     {variable("X"), variable("Y"), variable("Z"), union, union},
		"X|(Y&Z)":     {variable("X"), variable("Y"), variable("Z"), inter, union},
		"(X|Y)&(Y|X)": {variable("X"), variable("Y"), union, variable("Y"), variable("X"), union, inter},
		"c~1(X)":      {variable("X"), proj("c", 1)},
		"ref~1(0)":    {zero, proj("ref", 1)},
		"ref~3(1)":    {one, proj("ref", 3)},
		"full~8(X)":   {variable("X"), proj("full", 8)},
		"ref(0,1,a)":  {zero, one, con("a", 0), con("ref", 3)},
	} {
		a, names, id := mustLoad(t, row(), term.New(), []string{"Q"}, s)
		n, e := load.Nodes(row(), a, names, id)
		if e != api.OK || !slices.Equal(n, want) {
			t.Errorf("%s: %v, %d", s, n, e)
		}
		if got := load.Text(row(), a, names, id); got != s {
			t.Errorf("%s: text %s", s, got)
		}
		checkAllNodes(t, a, names)
	}
	for id, want := range []api.Node{zero, one} {
		if n, e := load.Nodes(nil, term.New(), nil, id); e != api.OK || !slices.Equal(n, []api.Node{want}) {
			t.Errorf("%d: %v, %d", id, n, e)
		}
	}
}

// isNone: the error, and nothing beside it.
func isNone(l []api.Sig, a api.Keyed, names []string, id int, want api.Errno) bool {
	n, e := load.Nodes(l, a, names, id)
	return e == want && len(n) == 0 && load.Text(l, a, names, id) == ""
}

// TestNodesErrors (P9.2): places that aren't there, and variables without a name, however deep they stand.
func TestNodesErrors(t *testing.T) {
	a, names, last := mustLoad(t, row(), term.New(), nil, "c(X)|d~2(Y&full(0,0,0,0,0,0,0,Z))")
	for _, id := range []int{-1, -2, last + 1, last + 2, math.MinInt, math.MaxInt, 1 << 32} {
		if !isNone(row(), a, names, id, api.ErrArg) {
			t.Errorf("place %d", id)
		}
	}
	for _, id := range []int{0, 2} {
		if !isNone(nil, api.Keyed{}, nil, id, api.ErrArg) {
			t.Errorf("of nothing, place %d", id)
		}
	}
	if !slices.Equal(names, []string{"X", "Y", "Z"}) || !isNone(row(), a, nil, last, api.ErrArg) || !isNone(row(), a, names[:2], last, api.ErrArg) {
		t.Error("a variable without a name")
	}
	checkAllNodes(t, a, names)

	far, id := mustPut(t, row(), term.New(), api.Term{Kind: api.Var, Sym: 3})
	for many := range 6 {
		n, e := load.Nodes(row(), far, []string{"A", "B", "C", "D", "E"}[:many], id)
		if many < 4 && (e != api.ErrArg || len(n) > 0) || many >= 4 && (e != api.OK || !slices.Equal(n, []api.Node{variable("D")})) {
			t.Errorf("variable 3 of %d names: %v, %d", many, n, e)
		}
	}
	if far, id = mustPut(t, row(), far, api.Term{Kind: api.Var, Sym: math.MaxInt}); !isNone(row(), far, names, id, api.ErrArg) {
		t.Error("the greatest variable")
	}
}

// chain loads parts with a sign between each two; of n parts there are 2n - 1 nodes.
func chain(t *testing.T, n int) (api.Keyed, []string, int) {
	t.Helper()
	return mustLoad(t, row(), term.New(), nil, "X"+strings.Repeat("|Y", n-1))
}

// TestMaxNodes (P9.2): 300 nodes may be, 301 not, be they few terms or many.
func TestMaxNodes(t *testing.T) {
	a, names, id := chain(t, 150)
	if n, e := load.Nodes(row(), a, names, id); e != api.OK || len(n) != 299 {
		t.Errorf("299 nodes: %d, %d", len(n), e)
	}
	b, at := mustPut(t, row(), a, api.Term{Kind: api.Con, Sym: 1, Args: []int{id}})
	if n, e := load.Nodes(row(), b, names, at); e != api.OK || len(n) != api.MaxNodes {
		t.Errorf("300 nodes: %d, %d", len(n), e)
	}
	if s := load.Text(row(), b, names, at); s != "c(X"+strings.Repeat("|Y", 149)+")" {
		t.Errorf("300 nodes: %s", s)
	}
	b, at = mustPut(t, row(), b, api.Term{Kind: api.Proj, Sym: 1, Args: []int{at}})
	if !isNone(row(), b, names, at, api.ErrFull) {
		t.Error("301 nodes, of a c in a projection")
	}
	if b, at = mustPut(t, row(), a, api.Term{Kind: api.Union, Args: []int{id, 2}}); !isNone(row(), b, names, at, api.ErrFull) {
		t.Error("301 nodes, of a union")
	}
	if b, at = mustPut(t, row(), a, api.Term{Kind: api.Con, Sym: 2, Args: []int{2, id}}); !isNone(row(), b, names, at, api.ErrFull) {
		t.Error("301 nodes, of a d")
	}
	checkNodes(t, b, names)

	// As many different terms as nodes.
	for _, many := range []int{299, 300, 301, 302, 1000} {
		l, k := []api.Node{variable("X0")}, 0
		for len(l)+2 <= many {
			k++
			l = append(l, variable("X"+strconv.Itoa(k)), union)
		}
		if len(l) < many {
			l = append(l, con("c", 1))
		}
		a, names, id, e := load.Load(row(), term.New(), nil, l, noLimit)
		n, why := load.Nodes(row(), a, names, id)
		if e != api.OK || many <= 300 && (why != api.OK || !expr.Same(n, l)) || many > 300 && !isNone(row(), a, names, id, api.ErrFull) {
			t.Errorf("%d different terms: %d, %d", many, e, why)
		}
	}
}

// TestDoubled (P9.2): terms whose parts are twice the one before: their nodes are more than any number of 64 bits tells. One without a name is told ahead of that.
func TestDoubled(t *testing.T) {
	for _, kind := range []api.Term{{Kind: api.Union}, {Kind: api.Inter}, {Kind: api.Con, Sym: 2}, {Kind: api.Con, Sym: 4}} {
		a, id := mustPut(t, row(), term.New(), api.Term{Kind: api.Var})
		many, parts := 1, 2
		if kind.Kind == api.Con {
			parts = len(row()[kind.Sym].Args)
		}
		for i := range 200 {
			kind.Args = slices.Repeat([]int{id}, parts)
			a, id = mustPut(t, row(), a, kind)
			many = min(many*parts+1, 1000)
			n, e := load.Nodes(row(), a, []string{"X"}, id)
			if many <= api.MaxNodes && (e != api.OK || len(n) != many) || many > api.MaxNodes && !isNone(row(), a, []string{"X"}, id, api.ErrFull) {
				t.Errorf("kind %d, %d times: %d nodes, %d", kind.Kind, i+1, len(n), e)
			}
			if !isNone(row(), a, nil, id, api.ErrArg) {
				t.Errorf("kind %d, %d times: no name", kind.Kind, i+1)
			}
		}
		// The variable without a name stands behind what is too great already.
		a, v := mustPut(t, row(), a, api.Term{Kind: api.Var, Sym: 1})
		a, id = mustPut(t, row(), a, api.Term{Kind: api.Inter, Args: []int{id, v}})
		if !isNone(row(), a, []string{"X"}, id, api.ErrArg) || !isNone(row(), a, []string{"X", "Y"}, id, api.ErrFull) {
			t.Errorf("kind %d: no name behind what is too great", kind.Kind)
		}
	}
}

// TestMaxDepth (P9.2): 40 brackets open at once may be, 41 not, whatever opens them; what needs none is no deeper.
func TestMaxDepth(t *testing.T) {
	x := 2 // the place of the variable
	for name, wrap := range map[string]func(id int) api.Term{
		"con":           func(id int) api.Term { return api.Term{Kind: api.Con, Sym: 1, Args: []int{id}} },
		"second of con": func(id int) api.Term { return api.Term{Kind: api.Con, Sym: 2, Args: []int{x, id}} },
		"proj":          func(id int) api.Term { return api.Term{Kind: api.Proj, Sym: 3, Part: 2, Args: []int{id}} },
		"second":        func(id int) api.Term { return api.Term{Kind: api.Union, Args: []int{x, id}} },
		"second, inter": func(id int) api.Term { return api.Term{Kind: api.Inter, Args: []int{x, id}} },
	} {
		a, id := mustPut(t, row(), term.New(), api.Term{Kind: api.Var})
		if strings.HasPrefix(name, "second") && name != "second of con" {
			a, id = mustPut(t, row(), a, wrap(id)) // x|x needs no bracket
		}
		for i := range 45 {
			a, id = mustPut(t, row(), a, wrap(id))
			n, e := load.Nodes(row(), a, []string{"X"}, id)
			if open := i + 1; open <= api.MaxDepth && (e != api.OK || deepest(expr.Text(n)) != open) || open > api.MaxDepth && !isNone(row(), a, []string{"X"}, id, api.ErrFull) {
				t.Errorf("%s, %d open: %d nodes, %d", name, open, len(n), e)
			}
			if !isNone(row(), a, nil, id, api.ErrArg) {
				t.Errorf("%s, %d open: no name", name, i+1)
			}
		}
		checkNodes(t, a, []string{"X"})
	}

	// The first part of its own kind needs no bracket; one of the other kind does.
	a, id := mustPut(t, row(), term.New(), api.Term{Kind: api.Var})
	b, mixed := a, id
	for i := range 60 {
		a, id = mustPut(t, row(), a, api.Term{Kind: api.Union, Args: []int{id, x}})
		if n, e := load.Nodes(row(), a, []string{"X"}, id); e != api.OK || len(n) != 2*i+3 || deepest(expr.Text(n)) > 0 {
			t.Errorf("%d unions: %d nodes, %d", i+1, len(n), e)
		}
		b, mixed = mustPut(t, row(), b, api.Term{Kind: api.Union + i%2, Args: []int{mixed, x}})
		if n, e := load.Nodes(row(), b, []string{"X"}, mixed); i <= api.MaxDepth && (e != api.OK || deepest(expr.Text(n)) != i) || i > api.MaxDepth && e != api.ErrFull {
			t.Errorf("%d of two kinds: %d nodes, %d", i+1, len(n), e)
		}
	}
	checkNodes(t, b, []string{"X"})
}

// TestMany (P9.2): a store of many terms, all of which are parts of one that is too great: the answer comes at once.
func TestMany(t *testing.T) {
	var keys [][]int
	for _, x := range []api.Term{{Kind: api.Zero}, {Kind: api.One}, {Kind: api.Var}} {
		keys = append(keys, term.Key(x))
	}
	last := 2
	for i := range 1 << 16 {
		x := api.Term{Kind: api.Con, Sym: 2, Args: []int{i % 3, last}}
		keys, last = append(keys, term.Key(x)), len(keys)
	}
	a := api.Keyed{Keys: keys, Slots: hash.Lay(keys)}
	if !isNone(row(), a, []string{"X"}, last, api.ErrFull) || !isNone(row(), a, nil, last, api.ErrArg) {
		t.Error("many terms in one another")
	}
	if n, e := load.Nodes(row(), a, []string{"X"}, 42); e != api.OK || len(n) != 81 {
		t.Errorf("40 of them: %d, %d", len(n), e)
	}
}
