package expr_test

import (
	"math/rand"
	"slices"
	"strings"
	"testing"

	"tammy/api"
	"tammy/expr"
)

// TestText (P7.2): ordinary texts: where brackets stand, and where none do.
func TestText(t *testing.T) {
	x, y, z := variable("X"), variable("Y"), variable("Z")
	for _, c := range []struct {
		l    []api.Node
		want string
	}{
		{[]api.Node{zero}, "0"},
		{[]api.Node{one}, "1"},
		{[]api.Node{x}, "X"},
		{[]api.Node{con("c", 0)}, "c"},
		{[]api.Node{x, con("c", 1)}, "c(X)"},
		{[]api.Node{x, zero, union, y, proj("d", 2), con("c", 2)}, "c(X|0,d~2(Y))"},
		{[]api.Node{x, y, z, x, y, z, zero, one, con("c", 8)}, "c(X,Y,Z,X,Y,Z,0,1)"},
		{[]api.Node{x, proj("c", 1)}, "c~1(X)"},
		{[]api.Node{x, proj("c", 8)}, "c~8(X)"},
		{[]api.Node{x, y, union}, "X|Y"},
		{[]api.Node{x, y, inter}, "X&Y"},
		{[]api.Node{x, y, union, z, union}, "X|Y|Z"},
		{[]api.Node{x, y, inter, z, inter}, "X&Y&Z"},
		{[]api.Node{x, y, z, union, union}, "X|(Y|Z)"},
		{[]api.Node{x, y, z, inter, inter}, "X&(Y&Z)"},
		{[]api.Node{x, y, union, z, inter}, "(X|Y)&Z"},
		{[]api.Node{x, y, inter, z, union}, "(X&Y)|Z"},
		{[]api.Node{x, y, z, union, inter}, "X&(Y|Z)"},
		{[]api.Node{x, y, z, inter, union}, "X|(Y&Z)"},
		{[]api.Node{x, y, union, x, y, union, union}, "X|Y|(X|Y)"},
		{[]api.Node{x, y, inter, x, y, inter, union}, "(X&Y)|(X&Y)"},
		{[]api.Node{x, y, union, con("c", 1)}, "c(X|Y)"},
		{[]api.Node{x, y, union, proj("c", 1)}, "c~1(X|Y)"},
		{[]api.Node{x, con("c", 1), x, proj("c", 1), union}, "c(X)|c~1(X)"},
		{[]api.Node{con("c", 0), con("d", 0), inter}, "c&d"},
	} {
		if got := expr.Text(c.l); got != c.want {
			t.Errorf("Text(%v): %q, not %q", c.l, got, c.want)
		}
		if !expr.Right(c.l) {
			t.Errorf("Right(%v) is false", c.l)
		}
	}
}

// TestTextReads (P7.1, P7.2, P7.3): expressions by chance, up to the greatest depth: their text is that of the document's words; it, and one of more brackets, is read as these nodes, and all of it; Right tells whether it may be.
func TestTextReads(t *testing.T) {
	right, wrong := 0, 0
	for seed := range 20000 {
		r := rand.New(rand.NewSource(int64(seed)))
		x := chance(r, r.Intn(6))
		if r.Intn(3) == 0 {
			x = wrap(r, x, 40+r.Intn(24))
		}
		l, plain := x.nodes(), x.plain()
		if got := expr.Text(l); got != plain {
			t.Fatalf("Text(%v): %q, not %q", l, got, plain)
		}
		deep := deepest(plain)
		if expr.Right(l) != (deep <= api.MaxDepth) {
			t.Fatalf("Right(%v), of %d brackets, is %v", l, deep, deep > api.MaxDepth)
		}
		if deep > api.MaxDepth {
			wrong++
			continue
		}
		right++
		checkReads(t, plain, l)
		if more := x.text(func() bool { return r.Intn(5) == 0 }); deepest(more) <= api.MaxDepth {
			checkReads(t, more, l)
		}
	}
	if right < 1000 || wrong < 1000 {
		t.Errorf("%d that may be, %d that may not", right, wrong)
	}
}

// checkReads: is a text read as these nodes, and all of it?
func checkReads(t *testing.T, s string, want []api.Node) {
	t.Helper()
	if len(s) > api.MaxText {
		return
	}
	l := toks(t, s)
	if got, end, e := expr.Read(l, 0); !slices.Equal(got, want) || end != len(l) || e != api.OK {
		t.Fatalf("Read(%q): %v, %d, %d, not %v", s, got, end, e, want)
	}
	behind := append(toks(t, "in"), append(l, toks(t, "X <=")...)...)
	if got, end, e := expr.Read(behind, 1); !slices.Equal(got, want) || end != len(l)+1 || e != api.OK {
		t.Fatalf("Read(in %q X): %v, %d, %d, not %v", s, got, end, e, want)
	}
}

// isWhole: are nodes one expression's (of the names X, c and d), by the document's words? All places at which its parts may come apart are tried.
func isWhole(l []api.Node) bool {
	if len(l) == 0 {
		return false
	}
	last, ahead := l[len(l)-1], l[:len(l)-1]
	switch last.Kind {
	case api.Zero, api.One:
		return last == api.Node{Kind: last.Kind} && len(ahead) == 0
	case api.Var:
		return last == variable("X") && len(ahead) == 0
	case api.Con:
		return (last.Name == "c" || last.Name == "d") && last.N <= 8 && areWhole(ahead, last.N)
	case api.Proj:
		return (last.Name == "c" || last.Name == "d") && last.N >= 1 && last.N <= 8 && areWhole(ahead, 1)
	case api.Union, api.Inter:
		return last == api.Node{Kind: last.Kind, N: 2} && areWhole(ahead, 2)
	}
	return false
}

// areWhole: are nodes those of so many expressions?
func areWhole(l []api.Node, many int) bool {
	if many <= 0 {
		return many == 0 && len(l) == 0
	}
	for i := range l {
		if isWhole(l[i:]) && areWhole(l[:i], many-1) {
			return true
		}
	}
	return false
}

// TestRightAll (P7.2): all short rows, of nodes that may be and of such that may not, against the document's words.
func TestRightAll(t *testing.T) {
	may := []api.Node{zero, one, variable("X"), con("c", 0), con("d", 1), con("c", 2), con("d", 3), proj("c", 1), proj("d", 8), union, inter}
	mayNot := []api.Node{variable("x"), variable(""), con("C", 0), con("c", -1), con("c", 9), proj("c", 0), proj("d", 9), proj("D", 1), {Kind: api.Union}, {Kind: api.Inter, N: 3}, {Kind: api.Zero, N: 1}, {Kind: 7}, {Kind: -1}, {Kind: api.Zero, Name: "X"}}
	right := 0
	check := func(l []api.Node) {
		want := isWhole(l)
		if want {
			right++
		}
		if expr.Right(l) != want {
			t.Fatalf("Right(%v) is %v", l, !want)
		}
	}
	var all func(l, of []api.Node, most int)
	all = func(l, of []api.Node, most int) {
		check(l)
		if len(l) == most {
			return
		}
		for _, n := range of {
			all(append(slices.Clone(l), n), of, most)
		}
	}
	all(nil, may, 5)
	all(nil, append(mayNot, zero, con("c", 2), proj("c", 1), union), 4)
	if right < 1000 {
		t.Errorf("%d only are right", right)
	}
}

// TestRightNodes (P7.2): each thing that a node may not be, where all else is right.
func TestRightNodes(t *testing.T) {
	long := strings.Repeat("a", api.MaxName)
	eight := make([]api.Node, 8)
	for _, c := range []struct {
		ahead []api.Node
		n     api.Node
		want  bool
	}{
		{nil, api.Node{Kind: api.Zero, N: 1}, false},
		{nil, api.Node{Kind: api.Zero, N: -1}, false},
		{nil, api.Node{Kind: api.Zero, Name: "0"}, false},
		{nil, api.Node{Kind: api.One, N: 1}, false},
		{nil, api.Node{Kind: api.One, Name: "X"}, false},
		{nil, variable("X"), true},
		{nil, variable("Z" + long[1:]), true},
		{nil, variable("Z" + long), false},
		{nil, variable(""), false},
		{nil, variable("x"), false},
		{nil, variable("0"), false},
		{nil, variable("X Y"), false},
		{nil, variable("X-"), false},
		{nil, api.Node{Kind: api.Var, Name: "X", N: 1}, false},
		{nil, api.Node{Kind: api.Var, Name: "X", N: -1}, false},
		{nil, con("c", 0), true},
		{nil, con(long, 0), true},
		{nil, con(long+"a", 0), false},
		{nil, con("", 0), false},
		{nil, con("X", 0), false},
		{nil, con("c(", 0), false},
		{nil, con("c", -1), false},
		{nil, con("c", -1<<63), false},
		{nil, con("c", 1<<63-1), false},
		{eight, con("c", 8), true},
		{eight[:7], con("c", 8), false},
		{eight[:7], con("c", 7), true},
		{eight, con("c", 7), false},
		{append(eight, zero), con("c", 9), false},
		{eight[:1], con("C", 1), false},
		{eight[:1], con("c", 0), false},
		{eight[:1], proj("c", 1), true},
		{eight[:1], proj("c", 8), true},
		{eight[:1], proj(long, 3), true},
		{eight[:1], proj(long+"a", 3), false},
		{eight[:1], proj("c", 9), false},
		{eight[:1], proj("c", 0), false},
		{eight[:1], proj("c", -1), false},
		{eight[:1], proj("X", 1), false},
		{eight[:1], proj("", 1), false},
		{eight[:2], proj("c", 2), false},
		{nil, proj("c", 1), false},
		{eight[:2], union, true},
		{eight[:2], inter, true},
		{eight[:3], union, false},
		{eight[:1], inter, false},
		{eight[:2], api.Node{Kind: api.Union}, false},
		{eight[:3], api.Node{Kind: api.Union, N: 3}, false},
		{eight[:2], api.Node{Kind: api.Union, N: 2, Name: "c"}, false},
		{eight[:2], api.Node{Kind: api.Inter, N: 1}, false},
		{eight[:2], api.Node{Kind: api.Inter, N: 2, Name: "X"}, false},
		{nil, api.Node{Kind: 7}, false},
		{nil, api.Node{Kind: -1}, false},
		{eight[:2], api.Node{Kind: 7, N: 2}, false},
	} {
		l := append(slices.Clone(c.ahead), c.n)
		if expr.Right(l) != c.want {
			t.Errorf("Right(%v) is %v", l, !c.want)
		}
	}
	if expr.Right(nil) || expr.Right([]api.Node{}) || expr.Right([]api.Node{zero, one}) {
		t.Error("no expression, or two, are right")
	}
}

// TestRightDepth (P7.2): as many brackets open as may be, and one more, of each kind; brackets that the text doesn't have don't count.
func TestRightDepth(t *testing.T) {
	leaf := tree{n: variable("X")}
	for i, around := range []func(x tree) tree{
		func(x tree) tree { return tree{n: con("c", 1), parts: []tree{x}} },
		func(x tree) tree { return tree{n: con("c", 3), parts: []tree{x, leaf, leaf}} },
		func(x tree) tree { return tree{n: con("c", 3), parts: []tree{leaf, leaf, x}} },
		func(x tree) tree { return tree{n: proj("c", 5), parts: []tree{x}} },
		func(x tree) tree { return tree{n: union, parts: []tree{{n: zero}, x}} },
		func(x tree) tree { return tree{n: inter, parts: []tree{{n: zero}, x}} },
		func(x tree) tree { return tree{n: union, parts: []tree{x, {n: zero}}} },
		func(x tree) tree { return tree{n: inter, parts: []tree{x, {n: zero}}} },
		func(x tree) tree {
			n := union
			if x.n == union {
				n = inter
			}
			return tree{n: n, parts: []tree{x, {n: zero}}}
		},
	} {
		x := leaf
		for deep := range 60 {
			l := x.nodes()
			want := deepest(x.plain()) <= api.MaxDepth
			if expr.Right(l) != want || want && i < 4 && deep > api.MaxDepth || !want && (i == 6 || i == 7) {
				t.Errorf("%d, %d times: Right is %v", i, deep, !want)
			}
			x = around(x)
		}
	}
}

// TestStarts (P7.2): of each node the place of the first node of its expression.
func TestStarts(t *testing.T) {
	l, _, _ := expr.Read(toks(t, "c(X|0,d~2(Y),c)&(X|Y|Z)"), 0)
	want := []int{0, 1, 0, 3, 3, 5, 0, 7, 8, 7, 10, 7, 0}
	if got := expr.Starts(l); !slices.Equal(got, want) {
		t.Errorf("Starts(%v): %v", l, got)
	}
	for seed := range 3000 {
		r := rand.New(rand.NewSource(int64(seed)))
		l := chance(r, r.Intn(6)).nodes()
		starts := expr.Starts(l)
		if len(starts) != len(l) {
			t.Fatalf("Starts(%v): %v", l, starts)
		}
		for i, from := range starts {
			// one expression only ends there: from any other place on it's another number of them
			if from < 0 || from > i || !expr.Right(l[from:i+1]) {
				t.Fatalf("Starts(%v): %v, at %d", l, starts, i)
			}
		}
	}
	if got := expr.Starts(nil); len(got) != 0 {
		t.Errorf("of nothing: %v", got)
	}
}

// TestWrongRows: rows that are no expression's, of which nothing is promised but that the calls end.
func TestWrongRows(t *testing.T) {
	nodes := []api.Node{zero, variable("X"), variable(""), con("c", 2), con("c", 1<<63-1), con("c", -1<<63), con("", 1), proj("c", 1), proj("d", 99), union, inter, {Kind: api.Union}, {Kind: 7}, {Kind: -5, N: 3}}
	r := rand.New(rand.NewSource(1))
	for range 50000 {
		var l []api.Node
		for range r.Intn(8) {
			l = append(l, nodes[r.Intn(len(nodes))])
		}
		expr.Text(l)
		starts := expr.Starts(l)
		if len(starts) != len(l) || expr.Right(l) != isWhole(l) {
			t.Fatalf("%v: %v", l, starts)
		}
	}
	if got := expr.Text(nil); got != "" {
		t.Errorf("Text(nil): %q", got)
	}
}

// TestLarge (P7.2, R1): many nodes, and such as are far in one another.
func TestLarge(t *testing.T) {
	const many = 1 << 17
	flat := []api.Node{zero}
	for range many {
		flat = append(flat, one, inter)
	}
	if got := expr.Text(flat); !expr.Right(flat) || got != "0"+strings.Repeat("&1", many) {
		t.Errorf("flat: %v, %d bytes", expr.Right(flat), len(got))
	}
	const deep = 1 << 16
	far := []api.Node{variable("X")}
	for range deep {
		far = append(far, con("c", 1))
	}
	if got := expr.Text(far); expr.Right(far) || got != strings.Repeat("c(", deep)+"X"+strings.Repeat(")", deep) {
		t.Errorf("deep: %v, %d bytes", expr.Right(far), len(got))
	}
	if got := expr.Starts(far); got[0] != 0 || got[deep] != 0 {
		t.Errorf("deep: %d", got[deep])
	}
	right := make([]api.Node, 0, 2*deep)
	for range deep {
		right = append(right, zero)
	}
	for range deep - 1 {
		right = append(right, union)
	}
	if got := expr.Text(right); expr.Right(right) || got != strings.Repeat("0|(", deep-2)+"0|0"+strings.Repeat(")", deep-2) {
		t.Errorf("to the right: %v, %d bytes", expr.Right(right), len(got))
	}
}

// TestSame (P7.2): the same in all that nodes have, in their order, and in how many they are.
func TestSame(t *testing.T) {
	x, y := variable("X"), con("c", 1)
	rows := [][]api.Node{
		nil, {x}, {y}, {x, y}, {y, x}, {x, x}, {x, y, y}, {{}}, {{}, {}},
		{variable("Y")}, {variable("x")}, {variable("")}, {con("X", 0)}, {{Kind: api.Var, Name: "X", N: 1}},
		{x, con("d", 1)}, {x, con("c", 2)}, {x, proj("c", 1)}, {x, x, union}, {x, x, inter},
	}
	for i, a := range rows {
		for j, b := range rows {
			if expr.Same(a, slices.Clone(b)) != (i == j) {
				t.Errorf("Same(%v, %v) is %v", a, b, i != j)
			}
		}
	}
	if !expr.Same(nil, []api.Node{}) || !expr.Same([]api.Node{}, nil) {
		t.Error("lists without elements are the same")
	}
}

// TestMemory (R3, R4): what is handed in stays as it is, with the room behind it; answers share nothing.
func TestMemory(t *testing.T) {
	room, _, _ := expr.Read(toks(t, "c(X|0,d~2(Y))&1"), 0)
	room = append(room, variable("BEHIND"))
	was := slices.Clone(room)
	l := room[: len(room)-1 : len(room)]
	first := expr.Starts(l)
	keep := slices.Clone(first)
	second := expr.Starts(l)
	for i := range second[:cap(second)] {
		second[:cap(second)][i] = -9
	}
	text := expr.Text(l)
	if !expr.Right(l) || !expr.Same(l, was[:len(l)]) || text != "c(X|0,d~2(Y))&1" || text != expr.Text(l) {
		t.Errorf("%q", text)
	}
	if !slices.Equal(first, keep) || !slices.Equal(expr.Starts(l), keep) || !slices.Equal(room, was) {
		t.Errorf("%v, %v", first, room)
	}
}
