package term_test

import (
	"math"
	"math/rand"
	"slices"
	"testing"

	"tammy/api"
	"tammy/hash"
	"tammy/term"
)

// sigs is a right row: constructors of no part, of one, of two, and of as many as there may be.
func sigs() []api.Sig {
	return []api.Sig{{Name: "a"}, {Name: "ref", Args: "+"}, {Name: "pair", Args: "-="}, {Name: "wide", Args: "+-=+-=+-"}}
}

// laid is the table of those keys, of which none is asked whether it may be.
func laid(keys ...[]int) api.Keyed { return api.Keyed{Keys: keys, Slots: hash.Lay(keys)} }

// begun is the table of Zero, One, and those keys.
func begun(keys ...[]int) api.Keyed {
	return laid(append([][]int{{0, 0, 0}, {1, 0, 0}}, keys...)...)
}

// deep is a copy that shares nothing.
func deep(a api.Keyed) api.Keyed {
	out := api.Keyed{Slots: slices.Clone(a.Slots)}
	for _, key := range a.Keys {
		out.Keys = append(out.Keys, slices.Clone(key))
	}
	return out
}

// put keeps terms, one behind the other, where nothing refuses them.
func put(t *testing.T, a api.Keyed, terms ...api.Term) api.Keyed {
	t.Helper()
	for _, x := range terms {
		b, _, e := term.Put(sigs(), a, x, math.MaxInt)
		if e != api.OK {
			t.Fatalf("Put of %v: %d", x, e)
		}
		a = b
	}
	return a
}

// some is a store that has all kinds: 2 X, 3 Y, 4 a, 5 ref(X), 6 pair(ref(X), Y), 7 X|a, 8 1&Y, 9 pair.1(1&Y), 10 Z.
func some(t *testing.T) api.Keyed {
	t.Helper()
	return put(t, term.New(),
		api.Term{Kind: api.Var, Sym: 0},
		api.Term{Kind: api.Var, Sym: 1},
		api.Term{Kind: api.Con, Sym: 0},
		api.Term{Kind: api.Con, Sym: 1, Args: []int{2}},
		api.Term{Kind: api.Con, Sym: 2, Args: []int{5, 3}},
		api.Term{Kind: api.Union, Args: []int{2, 4}},
		api.Term{Kind: api.Inter, Args: []int{1, 3}},
		api.Term{Kind: api.Proj, Sym: 2, Part: 1, Args: []int{8}},
		api.Term{Kind: api.Var, Sym: 2},
	)
}

// TestNumbers (P3.1): the numbers by which kinds are told in keys.
func TestNumbers(t *testing.T) {
	for want, kind := range []int{api.Zero, api.One, api.Var, api.Con, api.Union, api.Inter, api.Proj} {
		if got := term.Key(api.Term{Kind: kind}); !slices.Equal(got, []int{want, 0, 0}) {
			t.Errorf("the key of kind %d is %v", kind, got)
		}
	}
}

// TestKey (P3.1): a key is Kind, Sym, Part, and the Args, whether or not the term may be.
func TestKey(t *testing.T) {
	for i, x := range []struct {
		t    api.Term
		want []int
	}{
		{api.Term{}, []int{0, 0, 0}},
		{api.Term{Kind: 2, Sym: 9}, []int{2, 9, 0}},
		{api.Term{Kind: 3, Sym: 1, Args: []int{4, 5}}, []int{3, 1, 0, 4, 5}},
		{api.Term{Kind: 6, Sym: 1, Part: 7, Args: []int{8}}, []int{6, 1, 7, 8}},
		{api.Term{Kind: -1, Sym: math.MinInt, Part: math.MaxInt, Args: []int{-3, 0, 0}}, []int{-1, math.MinInt, math.MaxInt, -3, 0, 0}},
		{api.Term{Args: []int{}}, []int{0, 0, 0}},
	} {
		if got := term.Key(x.t); !slices.Equal(got, x.want) {
			t.Errorf("%d: %v", i, got)
		}
	}
}

// TestSame (P3.1, R3): all of it, right or not.
func TestSame(t *testing.T) {
	base := api.Term{Kind: 3, Sym: 2, Part: 1, Args: []int{4, 5}}
	for i, x := range []struct {
		y    api.Term
		want bool
	}{
		{api.Term{Kind: 3, Sym: 2, Part: 1, Args: []int{4, 5}}, true},
		{api.Term{Kind: 4, Sym: 2, Part: 1, Args: []int{4, 5}}, false},
		{api.Term{Kind: 3, Sym: 3, Part: 1, Args: []int{4, 5}}, false},
		{api.Term{Kind: 3, Sym: 2, Part: 0, Args: []int{4, 5}}, false},
		{api.Term{Kind: 3, Sym: 2, Part: 1, Args: []int{5, 4}}, false},
		{api.Term{Kind: 3, Sym: 2, Part: 1, Args: []int{4}}, false},
		{api.Term{Kind: 3, Sym: 2, Part: 1, Args: []int{4, 5, 0}}, false},
		{api.Term{Kind: 3, Sym: 2, Part: 1}, false},
		{api.Term{}, false},
	} {
		if term.Same(base, x.y) != x.want || term.Same(x.y, base) != x.want {
			t.Errorf("%d: Same is %v", i, !x.want)
		}
	}
	if !term.Same(api.Term{}, api.Term{Args: []int{}}) {
		t.Error("no Args aren't no Args")
	}
}

// wantMay says the document's words anew, one kind a line, over how many places there are.
func wantMay(l []api.Sig, places int, t api.Term) bool {
	for _, p := range t.Args {
		if p < 0 || p >= places {
			return false
		}
	}
	n := len(t.Args)
	switch t.Kind {
	case 0, 1:
		return t.Sym == 0 && t.Part == 0 && n == 0
	case 2:
		return t.Sym >= 0 && t.Part == 0 && n == 0
	case 3:
		return t.Sym >= 0 && t.Sym < len(l) && t.Part == 0 && n == len(l[t.Sym].Args)
	case 4, 5:
		return t.Sym == 0 && t.Part == 0 && n == 2
	case 6:
		return t.Sym >= 0 && t.Sym < len(l) && t.Part >= 0 && t.Part < len(l[t.Sym].Args) && n == 1
	}
	return false
}

// argsOf is rows of Args, of each length, with each place in it, those at the edges, and such that are none.
func argsOf(places int) [][]int {
	numbers := []int{math.MinInt, -1, 0, 1, places - 1, places, places + 1, math.MaxInt}
	out := [][]int{nil, {}}
	for _, x := range numbers {
		for n := 1; n <= api.MaxArity+1; n++ {
			out = append(out, slices.Repeat([]int{x}, n))
			first, last := make([]int, n), make([]int, n)
			first[0], last[n-1] = x, x
			out = append(out, first, last)
		}
	}
	return out
}

// TestMay (P3.1): all kinds, and such that are none, with every Sym, Part and Args at the edges.
func TestMay(t *testing.T) {
	numbers := []int{math.MinInt, -1, 0, 1, 2, 3, 4, 7, 8, 9, math.MaxInt}
	yes := 0
	for _, l := range [][]api.Sig{nil, sigs()[:1], sigs()[:2], sigs()} {
		for _, a := range []api.Keyed{term.New(), some(t)} {
			args := argsOf(len(a.Keys))
			for kind := -2; kind < 10; kind++ {
				for _, sym := range numbers {
					for _, part := range numbers {
						for _, arg := range args {
							x := api.Term{Kind: kind, Sym: sym, Part: part, Args: arg}
							want := wantMay(l, len(a.Keys), x)
							if got := term.May(l, a, x); got != want {
								t.Fatalf("May of %v by %d constructors and %d terms is %v", x, len(l), len(a.Keys), got)
							}
							if want {
								yes++
							}
						}
					}
				}
			}
		}
	}
	if yes == 0 {
		t.Error("no term may be")
	}
}

// TestMayExamples (P3.1): told one by one, so that they don't hang on a second reading of the document.
func TestMayExamples(t *testing.T) {
	a := some(t)
	for i, x := range []struct {
		t    api.Term
		want bool
	}{
		{api.Term{Kind: api.Zero}, true},
		{api.Term{Kind: api.One}, true},
		{api.Term{Kind: api.Zero, Sym: 1}, false},
		{api.Term{Kind: api.One, Part: 1}, false},
		{api.Term{Kind: api.One, Args: []int{0}}, false},
		{api.Term{Kind: api.Var, Sym: math.MaxInt}, true},
		{api.Term{Kind: api.Var, Sym: -1}, false},
		{api.Term{Kind: api.Var, Part: 1}, false},
		{api.Term{Kind: api.Var, Args: []int{0}}, false},
		{api.Term{Kind: api.Con, Sym: 0}, true},
		{api.Term{Kind: api.Con, Sym: 0, Args: []int{0}}, false},
		{api.Term{Kind: api.Con, Sym: 2, Args: []int{10, 0}}, true},
		{api.Term{Kind: api.Con, Sym: 2, Args: []int{0, 11}}, false},
		{api.Term{Kind: api.Con, Sym: 2, Args: []int{-1, 0}}, false},
		{api.Term{Kind: api.Con, Sym: 2, Args: []int{0}}, false},
		{api.Term{Kind: api.Con, Sym: 3, Args: []int{0, 1, 2, 3, 4, 5, 6, 7}}, true},
		{api.Term{Kind: api.Con, Sym: 3, Args: []int{0, 1, 2, 3, 4, 5, 6}}, false},
		{api.Term{Kind: api.Con, Sym: 4}, false},
		{api.Term{Kind: api.Con, Sym: 1, Part: 1, Args: []int{0}}, false},
		{api.Term{Kind: api.Union, Args: []int{10, 10}}, true},
		{api.Term{Kind: api.Union, Args: []int{10}}, false},
		{api.Term{Kind: api.Union, Args: []int{1, 2, 3}}, false},
		{api.Term{Kind: api.Inter, Args: []int{0, 10}}, true},
		{api.Term{Kind: api.Inter, Sym: 1, Args: []int{0, 10}}, false},
		{api.Term{Kind: api.Inter, Part: 1, Args: []int{0, 10}}, false},
		{api.Term{Kind: api.Proj, Sym: 2, Part: 1, Args: []int{10}}, true},
		{api.Term{Kind: api.Proj, Sym: 2, Part: 2, Args: []int{10}}, false},
		{api.Term{Kind: api.Proj, Sym: 2, Part: -1, Args: []int{10}}, false},
		{api.Term{Kind: api.Proj, Sym: 0, Args: []int{10}}, false},
		{api.Term{Kind: api.Proj, Sym: 4, Args: []int{10}}, false},
		{api.Term{Kind: api.Proj, Sym: 2, Args: []int{10, 10}}, false},
		{api.Term{Kind: api.Proj, Sym: 2}, false},
		{api.Term{Kind: 7}, false},
		{api.Term{Kind: -1}, false},
	} {
		if got := term.May(sigs(), a, x.t); got != x.want {
			t.Errorf("%d: May of %v is %v", i, x.t, got)
		}
	}
}

// TestNew (P3.1): Zero and One alone, each time anew.
func TestNew(t *testing.T) {
	a, b := term.New(), term.New()
	if !hash.Same(a, begun()) || len(a.Keys) != 2 || len(a.Slots) != api.MinSlots {
		t.Fatal(a)
	}
	a.Keys[0][1], a.Keys[1], a.Slots[0] = 5, nil, 7
	if !hash.Same(b, begun()) || !hash.Same(term.New(), begun()) {
		t.Error("two stores share memory")
	}
}

// TestOf (P3.1): the term at each place, and none elsewhere.
func TestOf(t *testing.T) {
	a := some(t)
	want := []api.Term{
		{Kind: api.Zero},
		{Kind: api.One},
		{Kind: api.Var},
		{Kind: api.Var, Sym: 1},
		{Kind: api.Con},
		{Kind: api.Con, Sym: 1, Args: []int{2}},
		{Kind: api.Con, Sym: 2, Args: []int{5, 3}},
		{Kind: api.Union, Args: []int{2, 4}},
		{Kind: api.Inter, Args: []int{1, 3}},
		{Kind: api.Proj, Sym: 2, Part: 1, Args: []int{8}},
		{Kind: api.Var, Sym: 2},
	}
	for id, x := range want {
		if got, ok := term.Of(a, id); !ok || !term.Same(got, x) || !slices.Equal(term.Key(got), a.Keys[id]) {
			t.Errorf("%d: %v, %v", id, got, ok)
		}
	}
	for _, id := range []int{math.MinInt, -1, len(want), len(want) + 1, math.MaxInt} {
		if got, ok := term.Of(a, id); ok || !term.Same(got, api.Term{}) {
			t.Errorf("%d: %v, %v", id, got, ok)
		}
	}
}

// TestRight (P3.1): which tables are stores.
func TestRight(t *testing.T) {
	twisted, short, free := some(t), some(t), some(t)
	slices.Reverse(twisted.Slots)
	short.Slots = short.Slots[:len(short.Slots)/2]
	free.Slots = append(free.Slots, make([]int, len(free.Slots))...)
	for i, x := range []struct {
		a    api.Keyed
		want bool
	}{
		{term.New(), true},
		{begun(), true},
		{some(t), true},
		{begun([]int{2, 0, 0}), true},
		{begun([]int{2, 77, 0}), true},
		{begun([]int{3, 2, 0, 1, 0}), true},
		{begun([]int{4, 0, 0, 0, 1}, []int{4, 0, 0, 2, 2}), true},
		{begun([]int{6, 3, 7, 1}), true},
		{api.Keyed{}, false},
		{laid(), false},
		{laid([]int{0, 0, 0}), false},
		{laid([]int{1, 0, 0}, []int{0, 0, 0}), false},
		{laid([]int{0, 0, 0}, []int{2, 0, 0}), false},
		{laid([]int{0, 0, 0}, []int{2, 0, 0}, []int{1, 0, 0}), false},
		{laid([]int{2, 0, 0}, []int{0, 0, 0}, []int{1, 0, 0}), false},
		{laid([]int{0, 0, 0, 0}, []int{1, 0, 0}), false},
		{laid([]int{0, 0, 0}, []int{1, 0}), false},
		{laid([]int{0, 0, 0}, []int{1, 0, 1}), false},
		{laid(nil, nil), false},
		{begun([]int{0, 0, 0}), false},
		{begun([]int{1, 0, 0}), false},
		{begun([]int{2, 0, 0}, []int{2, 0, 0}), false},
		{begun(nil), false},
		{begun([]int{2}), false},
		{begun([]int{2, 0}), false},
		{begun([]int{2, -1, 0}), false},
		{begun([]int{2, 0, 0, 0}), false},
		{begun([]int{7, 0, 0}), false},
		{begun([]int{-1, 0, 0}), false},
		{begun([]int{3, 1, 0, 2}), false},
		{begun([]int{3, 1, 0, 3}, []int{2, 0, 0}), false},
		{begun([]int{2, 0, 0}, []int{3, 1, 0, 3}), false},
		{begun([]int{3, 1, 0, -1}), false},
		{begun([]int{3, 4, 0}), false},
		{begun([]int{3, -1, 0}), false},
		{begun([]int{3, 2, 0, 1}), false},
		{begun([]int{4, 0, 0, 1, 2}), false},
		{begun([]int{4, 0, 0, 1}), false},
		{begun([]int{5, 0, 1, 1, 1}), false},
		{begun([]int{6, 3, 8, 1}), false},
		{begun([]int{2, 0, 0}, []int{6, 0, 0, 1}, []int{2, 1, 0}), false},
		{api.Keyed{Keys: begun().Keys, Slots: make([]int, api.MinSlots)}, false},
		{api.Keyed{Keys: begun().Keys}, false},
		{twisted, false},
		{short, false},
		{free, false},
	} {
		if got := term.Right(sigs(), x.a); got != x.want {
			t.Errorf("%d: Right of %v is %v", i, x.a, got)
		}
	}
}

// TestRightByRow (P3.1): the same table is a store by one row of constructors, by another it isn't.
func TestRightByRow(t *testing.T) {
	a := begun([]int{3, 1, 0, 0})
	for i, x := range []struct {
		l    []api.Sig
		want bool
	}{
		{sigs(), true},
		{sigs()[:2], true},
		{sigs()[:1], false},
		{nil, false},
		{[]api.Sig{{Name: "a"}, {Name: "b"}}, false},
		{[]api.Sig{{Name: "a"}, {Name: "b", Args: "++"}}, false},
		{[]api.Sig{{Name: "a", Args: "++"}, {Name: "b", Args: "="}}, true},
	} {
		if got := term.Right(x.l, a); got != x.want {
			t.Errorf("%d: Right is %v", i, got)
		}
	}
	if !term.Right(nil, begun([]int{2, 0, 0}, []int{4, 0, 0, 2, 1})) {
		t.Error("without constructors there is no store")
	}
}

// TestPut (P3.2): new terms stand behind, known ones where they stood.
func TestPut(t *testing.T) {
	a, id, e := term.Put(nil, term.New(), api.Term{Kind: api.Var}, api.MaxTerms)
	if id != 2 || e != api.OK || !hash.Same(a, begun([]int{2, 0, 0})) {
		t.Fatal(a, id, e)
	}
	for want, x := range []api.Term{{Kind: api.Zero}, {Kind: api.One}, {Kind: api.Var}} {
		b, id, e := term.Put(nil, a, x, api.MaxTerms)
		if id != want || e != api.OK || !hash.Same(a, b) {
			t.Errorf("%v: %v, %d, %d", x, b, id, e)
		}
	}
	full := some(t)
	for i := range full.Keys {
		x, _ := term.Of(full, i)
		b, id, e := term.Put(sigs(), full, x, api.MaxTerms)
		if id != i || e != api.OK || !hash.Same(b, full) {
			t.Errorf("%v: %d, %d", x, id, e)
		}
	}
	x := api.Term{Kind: api.Proj, Sym: 3, Part: 7, Args: []int{10}}
	b, id, e := term.Put(sigs(), full, x, api.MaxTerms)
	if id != 11 || e != api.OK || !hash.Same(b, laid(append(deep(full).Keys, []int{6, 3, 7, 10})...)) {
		t.Error(b, id, e)
	}
}

// TestPutErrors (P3.2, R1, R2): each error, ErrArg ahead of ErrFull, with the store as it was and 0; what is there already needs no room.
func TestPutErrors(t *testing.T) {
	a := some(t)
	n := len(a.Keys)
	fresh, known, wrong := api.Term{Kind: api.Var, Sym: 9}, api.Term{Kind: api.Proj, Sym: 2, Part: 1, Args: []int{8}}, api.Term{Kind: api.Con, Sym: 1, Args: []int{n}}
	for i, x := range []struct {
		t     api.Term
		limit int
		id    int
		e     api.Errno
	}{
		{fresh, n + 1, n, api.OK},
		{fresh, math.MaxInt, n, api.OK},
		{fresh, n, 0, api.ErrFull},
		{fresh, n - 1, 0, api.ErrFull},
		{fresh, 0, 0, api.ErrFull},
		{fresh, -1, 0, api.ErrFull},
		{fresh, math.MinInt, 0, api.ErrFull},
		{known, n + 1, 9, api.OK},
		{known, n, 9, api.OK},
		{known, 0, 9, api.OK},
		{known, math.MinInt, 9, api.OK},
		{wrong, math.MaxInt, 0, api.ErrArg},
		{wrong, n, 0, api.ErrArg},
		{wrong, 0, 0, api.ErrArg},
		{wrong, -1, 0, api.ErrArg},
		{api.Term{Kind: 7}, n + 1, 0, api.ErrArg},
		{api.Term{Kind: api.Con, Sym: 4}, n + 1, 0, api.ErrArg},
	} {
		b, id, e := term.Put(sigs(), a, x.t, x.limit)
		want := a
		if x.id == n {
			want = laid(append(deep(a).Keys, term.Key(x.t))...)
		}
		if id != x.id || e != x.e || !hash.Same(b, want) {
			t.Errorf("%d: %v, %d, %d", i, b, id, e)
		}
	}
}

// TestBelow (P3.3): known ones, a part that is there twice or by two ways among them.
func TestBelow(t *testing.T) {
	a := put(t, some(t),
		api.Term{Kind: api.Union, Args: []int{6, 6}},
		api.Term{Kind: api.Con, Sym: 2, Args: []int{9, 5}},
		api.Term{Kind: api.Con, Sym: 3, Args: []int{10, 1, 4, 4, 0, 2, 7, 3}},
	)
	for id, want := range [][]int{{0}, {1}, {2}, {3}, {4}, {2, 5}, {2, 3, 5, 6}, {2, 4, 7}, {1, 3, 8}, {1, 3, 8, 9}, {10}, {2, 3, 5, 6, 11}, {1, 2, 3, 5, 8, 9, 12}, {0, 1, 2, 3, 4, 7, 10, 13}} {
		if got := term.Below(a, id); !slices.Equal(got, want) {
			t.Errorf("%d: %v", id, got)
		}
	}
	for _, id := range []int{math.MinInt, -1, len(a.Keys), math.MaxInt} {
		if got := term.Below(a, id); len(got) != 0 {
			t.Errorf("%d: %v", id, got)
		}
	}
}

// TestBelowDeep (P3.3): a term whose ways down are as many as 2 to the power of its height, and one of 2^16 parts in one another.
func TestBelowDeep(t *testing.T) {
	keys := begun([]int{2, 0, 0}).Keys
	for i := range 1 << 16 {
		keys = append(keys, []int{4, 0, 0, i + 2, i + 2})
	}
	a := laid(keys...)
	if !term.Right(nil, a) {
		t.Fatal("no store")
	}
	got := term.Below(a, len(keys)-1)
	if len(got) != len(keys)-2 || got[0] != 2 || !slices.IsSorted(got) {
		t.Error(len(got))
	}
}

// wantBelow goes down from a term, part by part.
func wantBelow(a api.Keyed, id int, seen map[int]bool) []int {
	seen[id] = true
	for _, part := range a.Keys[id][3:] {
		wantBelow(a, part, seen)
	}
	var out []int
	for at := range seen {
		out = append(out, at)
	}
	slices.Sort(out)
	return out
}

// anyTerm is a term, most of which may be by n places.
func anyTerm(r *rand.Rand, n int) api.Term {
	x := api.Term{Kind: r.Intn(8)}
	many := 0
	switch x.Kind {
	case api.Var:
		x.Sym = r.Intn(6)
	case api.Con:
		x.Sym = r.Intn(3)
		many = x.Sym
	case api.Union, api.Inter:
		many = 2
	case api.Proj:
		x.Sym = 1 + r.Intn(2)
		x.Part = r.Intn(x.Sym)
		many = 1
	}
	switch r.Intn(20) {
	case 0:
		x.Sym = r.Intn(8) - 2
	case 1:
		x.Part = r.Intn(8) - 2
	case 2:
		many = r.Intn(4)
	}
	for range many {
		x.Args = append(x.Args, r.Intn(n+1)-r.Intn(20)/19)
	}
	return x
}

// TestStoreComesOut (P3.4, with P3.2 and P3.3): whatever is put, a store comes out, of which no place changes; parts stand ahead; the same terms stand at one place.
func TestStoreComesOut(t *testing.T) {
	for seed := range 40 {
		r := rand.New(rand.NewSource(int64(seed)))
		a, limit := term.New(), 2+r.Intn(60)
		places := map[string]int{}
		for range 200 {
			x := anyTerm(r, len(a.Keys))
			was := deep(a)
			b, id, e := term.Put(sigs(), a, x, limit)
			name := string(encode(term.Key(x)))
			at, isKnown := places[name]
			if x.Kind == api.Zero || x.Kind == api.One {
				at, isKnown = x.Kind, wantMay(sigs(), len(was.Keys), x)
			}
			want, wantID, wantE := was, 0, api.OK
			switch {
			case !wantMay(sigs(), len(was.Keys), x):
				wantE = api.ErrArg
			case isKnown:
				wantID = at
			case len(was.Keys) >= limit:
				wantE = api.ErrFull
			default:
				want, wantID = laid(append(deep(was).Keys, term.Key(x))...), len(was.Keys)
				places[name] = wantID
			}
			if id != wantID || e != wantE || !hash.Same(b, want) || !hash.Same(a, was) {
				t.Fatalf("seed %d: Put of %v: %d, %d", seed, x, id, e)
			}
			if !term.Right(sigs(), b) {
				t.Fatalf("seed %d: no store comes out: %v", seed, b)
			}
			a = b
		}
		checkParts(t, a)
	}
}

// encode is a key as bytes, for the tests' own map.
func encode(key []int) []byte {
	var out []byte
	for _, n := range key {
		out = append(out, byte(n), byte(n>>8))
	}
	return out
}

func checkParts(t *testing.T, a api.Keyed) {
	t.Helper()
	for id := range a.Keys {
		x, ok := term.Of(a, id)
		if !ok || !term.May(sigs(), a, x) {
			t.Fatalf("%d: %v may not be", id, x)
		}
		for _, part := range x.Args {
			if part < 0 || part >= id {
				t.Fatalf("%d: the part %d isn't ahead", id, part)
			}
		}
		if got, want := term.Below(a, id), wantBelow(a, id, map[int]bool{}); !slices.Equal(got, want) {
			t.Fatalf("%d: below is %v, not %v", id, got, want)
		}
	}
}

// TestMemory (R3): what is handed in stays as it is, with the room behind it; what comes out shares nothing with it.
func TestMemory(t *testing.T) {
	for _, limit := range []int{0, math.MaxInt} {
		for _, x := range []api.Term{
			{Kind: api.Con, Sym: 1, Args: []int{2, 95}[:1]},
			{Kind: api.Con, Sym: 1, Args: []int{3, 95}[:1]},
			{Kind: api.Con, Sym: 1, Args: []int{99, 95}[:1]},
		} {
			a := some(t)
			a.Keys = append(a.Keys, []int{94})[:len(a.Keys)]
			a.Slots = append(a.Slots, 93)[:len(a.Slots)]
			for i, key := range a.Keys {
				a.Keys[i] = append(key, 92)[:len(key)]
			}
			was, l, arg := deep(a), sigs(), x.Args[0]
			b, _, _ := term.Put(l, a, x, limit)
			c, _, _ := term.Put(l, a, x, limit)
			wasB, key := deep(b), term.Key(x)
			of, _ := term.Of(a, 6)
			below := term.Below(a, 6)
			term.May(l, a, x)
			term.Right(l, a)
			_, _ = append(of.Args, 91), append(key, 91)
			of.Args[0], key[0], key[3], below[0] = -1, -1, -1, -1
			wipe(c)
			if !hash.Same(a, was) || !hash.Same(b, wasB) || x.Args[0] != arg || x.Args[:2][1] != 95 {
				t.Fatal("what is handed in is written into, or shared")
			}
			x.Args[0] = -1
			if !hash.Same(b, wasB) {
				t.Fatal("the store shares the term's Args")
			}
			wipe(b)
			if !hash.Same(a, was) || a.Keys[:len(a.Keys)+1][len(a.Keys)][0] != 94 || a.Slots[:len(a.Slots)+1][len(a.Slots)] != 93 {
				t.Fatal("what comes out shares memory with what is handed in")
			}
			for _, k := range a.Keys {
				if k[:len(k)+1][len(k)] != 92 {
					t.Fatal("the room behind a key is written into")
				}
			}
		}
	}
}

// wipe writes over all of a table.
func wipe(a api.Keyed) {
	for i, key := range a.Keys {
		for j := range key {
			key[j] = -9
		}
		a.Keys[i] = nil
	}
	for i := range a.Slots {
		a.Slots[i] = -9
	}
}

// TestWrongStores (R1): of tables that are no stores nothing is promised but that each call ends, and none panics.
func TestWrongStores(t *testing.T) {
	wrong := []api.Keyed{
		{},
		{Slots: []int{5, -3, math.MaxInt, math.MinInt}},
		{Keys: [][]int{nil, {1}, {1, 2}, {3, 9, 9}, {3, 0, 0, 4}, {4, 0, 0, 6, 5}, {4, 0, 0, 5, 6}, {6, -1, -1, -1}, {4, 0, 0, math.MaxInt, math.MinInt}}},
		laid([]int{4, 0, 0, 0, 0}),
		laid([]int{4, 0, 0, 1, 1}, []int{4, 0, 0, 0, 0}),
		laid(nil, nil, nil),
	}
	numbers := []int{math.MinInt, -1, 0, 1, 2, 5, 8, math.MaxInt}
	for _, a := range wrong {
		for _, l := range [][]api.Sig{nil, sigs(), {{Name: "?", Args: "??????????"}}} {
			if term.Right(l, a) {
				t.Errorf("%v is a store", a)
			}
			for _, id := range numbers {
				term.Of(a, id)
				term.Below(a, id)
				for kind := -1; kind < 8; kind++ {
					x := api.Term{Kind: kind, Sym: id, Part: id, Args: []int{id, id}}
					term.May(l, a, x)
					term.Put(l, a, x, id)
					term.Put(l, a, api.Term{Kind: kind, Args: []int{id, id}}, 400)
				}
			}
		}
	}
	if x, ok := term.Of(laid([]int{2, 5}), 0); ok || !term.Same(x, api.Term{}) {
		t.Error("half a key is a term")
	}
}
