package ask_test

import (
	"fmt"
	"strings"
	"testing"

	"tammy/api"
	"tammy/ask"
	"tammy/solve"
)

// TestExample (P16.3): the document's.
func TestExample(t *testing.T) {
	s := solved(t, nil, 0, "", "a<X")
	s.wantAsk(t, "X", "a", api.OK)
}

// TestFind (P16.1): each place; ErrName and 0 for what is none of them.
func TestFind(t *testing.T) {
	names := []string{"X", "Xy", "Y", "X_1", "x", "Z"}
	for i, name := range names {
		if at, e := ask.Find(names, name); at != i || e != api.OK {
			t.Errorf("Find(%q): %d, %d", name, at, e)
		}
		for n := range i + 1 { // where it isn't there yet
			if at, e := ask.Find(names[:n], name); at != 0 || e != api.ErrName {
				t.Errorf("Find(%q) among %q: %d, %d", name, names[:n], at, e)
			}
		}
	}
	for _, name := range []string{"", "W", "y", "XY", "X_", "X_12", " X", "X ", "Xy\x00", "\xff", "0", "a"} {
		if at, e := ask.Find(names, name); at != 0 || e != api.ErrName {
			t.Errorf("Find(%q): %d, %d", name, at, e)
		}
	}
	if at, e := ask.Find([]string{"Y", "X", "X"}, "X"); at != 1 || e != api.OK {
		t.Errorf("one that stands twice: %d, %d", at, e)
	}
}

// TestFindMany (P16.1): a long row.
func TestFindMany(t *testing.T) {
	var names []string
	for i := range 100000 {
		names = append(names, fmt.Sprintf("X%d", i))
	}
	for _, i := range []int{0, 1, 77777, 99999} {
		if at, e := ask.Find(names, names[i]); at != i || e != api.OK {
			t.Errorf("%d: %d, %d", i, at, e)
		}
	}
	if at, e := ask.Find(names, "X100000"); at != 0 || e != api.ErrName {
		t.Errorf("%d, %d", at, e)
	}
}

// TestClashes (P16.2): the texts of both terms, sorted by bytes, wherever the terms stand.
func TestClashes(t *testing.T) {
	for _, x := range []struct{ terms, cons, want string }{
		{"", "", ""},
		{"", "a<X X<Y", ""},
		{"", "a<X X<b", "a <= b"},
		{"", "a<b", "a <= b"},
		{"", "a<0", "a <= 0"},
		{"", "1<0", "1 <= 0"},
		{"", "1<X X<p(Y)", "1 <= p(Y)"},
		{"b a", "b<X a<X X<0", "a <= 0;b <= 0"},
		{"b a", "b|a<X X<c(X,Y)&p(1)", "a <= c(X,Y);a <= p(1);b <= c(X,Y);b <= p(1)"},
		{"", "p(b)<X p(a)<X X<p(Y) p(Z)<X Y<0", "a <= 0;b <= 0"},
		{"", "p(X|Y)<m(X&Y)", "p(X|Y) <= m(X&Y)"},
		{"", "p(X|Y|(Z|X))<m(X)", "p(X|Y|(Z|X)) <= m(X)"},
		{"", "a<p(p~1(X)&m~1(Y))", "a <= p(p~1(X)&m~1(Y))"},
		{"", "e(a)<e(b)", "a <= b;b <= a"},
		{"", "m(a)<m(b)", "b <= a"},
		{"", "a<b b<a a<0 b<0 1<a 1<b 1<0", "1 <= 0;1 <= a;1 <= b;a <= 0;a <= b;b <= 0;b <= a"},
		{"", "1<Y Y<a&b&0 p(Y)<Y", "1 <= 0;1 <= a;1 <= b;p(Y) <= 0;p(Y) <= a;p(Y) <= b"},
		// Longer names behind shorter ones that begin so; capitals ahead of small letters; a bracket ahead of a figure, and of a letter.
		{"", "p(X1)|p(Xa)|p(X)|p(Xb)<Z Z<a", "p(X) <= a;p(X1) <= a;p(Xa) <= a;p(Xb) <= a"},
		{"", "p(a)|p(b)|p(Y)|p(0)|p(1)<Z Z<a", "p(0) <= a;p(1) <= a;p(Y) <= a;p(a) <= a;p(b) <= a"},
		{"", "a<p(Y1) a<p(Y) a<p(Yy)", "a <= p(Y);a <= p(Y1);a <= p(Yy)"},
	} {
		for _, depth := range []int{0, 50} {
			solved(t, nil, depth, x.terms, x.cons).wantClashes(t, x.want)
		}
	}
}

// TestClashesSorted (P16.2): the whole text is what is sorted, not the first term's and then the second one's: `p <= ..` is ahead of `p(X) <= ..` by the blank.
func TestClashesSorted(t *testing.T) {
	l := []api.Sig{{Name: "p"}, {Name: "p_"}, {Name: "pa"}, {Name: "q", Args: "+"}, {Name: "p0"}, {Name: "z"}}
	s, _ := solve.New(l, nil, 0)
	x := &shelf{System: s}
	var ids []int
	for _, text := range []string{"z", "pa", "q(X)", "p_", "p0", "p", "1"} {
		ids = append(ids, x.at(t, text))
	}
	for _, id := range ids {
		x.System = solve.Put(x.System, id, x.at(t, "z"))
		x.System = solve.Put(x.System, id, 0)
	}
	x.run(t)
	x.wantClashes(t, "1 <= 0;1 <= z;p <= 0;p <= z;p0 <= 0;p0 <= z;p_ <= 0;p_ <= z;pa <= 0;pa <= z;q(X) <= 0;q(X) <= z;z <= 0")
}

// TestAsk (P16.3): the texts of all that is below a variable, sorted by bytes, and nobody else's; a circle's are those of each in it.
func TestAsk(t *testing.T) {
	for _, ranks := range [][]int{nil, {4, 3, 2, 1}, {0, 2, -1}} {
		for _, depth := range []int{0, 1, 50} {
			s := solved(t, ranks, depth, "W b p(b) a", "p(b)<X a<X 1<X b<X X<Y Y<Z Z<Y c(Y,a)<Z p~1(V)<V Y<p~1(V)")
			s.wantAsk(t, "X", "1;a;b;p(b)", api.OK)
			s.wantAsk(t, "Y", "1;a;b;c(Y,a);p(b)", api.OK)
			s.wantAsk(t, "Z", "1;a;b;c(Y,a);p(b)", api.OK)
			s.wantAsk(t, "V", "1;b", api.OK)
			s.wantAsk(t, "W", "", api.OK)
			s.wantClashes(t, "")
		}
	}
}

// TestAskTexts (P16.3): terms of each kind in what is told, with their brackets; variables by the names that are handed in.
func TestAskTexts(t *testing.T) {
	s := solved(t, nil, 0, "Other X9 a b", "p(X|Y|(Z|Y))|m(X&(Y|Z))|m(p~1(X)&c~2(Y))|c(0,1)|e(e(e(a)))|b|p(Long_name_1)<X")
	s.wantAsk(t, "X", "b;c(0,1);e(e(e(a)));m(X&(Y|Z));m(p~1(X)&c~2(Y));p(Long_name_1);p(X|Y|(Z|Y))", api.OK)
	for i, name := range s.names {
		s.names[i] = map[string]string{"X": "W", "Y": "A", "Z": "N", "Long_name_1": "Y", "Other": "U", "X9": "V"}[name] + "_" + name
	}
	s.wantAsk(t, "X", "", api.ErrName)
	s.wantAsk(t, "W_X", "b;c(0,1);e(e(e(a)));m(W_X&(A_Y|N_Z));m(p~1(W_X)&c~2(A_Y));p(W_X|A_Y|(N_Z|A_Y));p(Y_Long_name_1)", api.OK)
}

// TestAskErrors (P16.3): ErrName and nothing, with a clash too; ErrClash, and the first of Clashes alone.
func TestAskErrors(t *testing.T) {
	s := solved(t, nil, 0, "b", "a<X")
	for _, name := range []string{"", "Y", "x", "a", "X ", "X_", "1"} {
		s.wantAsk(t, name, "", api.ErrName)
	}
	s = solved(t, nil, 0, "b c(Y,Z)", "b|a|1<X X<a X<c(Y,Z)")
	s.wantClashes(t, "1 <= a;1 <= c(Y,Z);a <= c(Y,Z);b <= a;b <= c(Y,Z)")
	for _, name := range []string{"X", "Y", "Z"} { // of whichever the clash is
		s.wantAsk(t, name, "1 <= a", api.ErrClash)
	}
	s.wantAsk(t, "W", "", api.ErrName)
	s = solved(t, nil, 0, "X", "b<a")
	s.wantAsk(t, "X", "b <= a", api.ErrClash)
	s.wantAsk(t, "Y", "", api.ErrName)
	none := solved(t, nil, 0, "", "b<a")
	none.wantAsk(t, "X", "", api.ErrName)
}

// TestNoVariable (P16.3, P16.4): a name behind those of the variables that are there is that of none.
func TestNoVariable(t *testing.T) {
	s := solved(t, nil, 0, "", "a<X")
	s.names = append(s.names, "Y")
	s.wantAsk(t, "X", "a", api.OK)
	s.wantAsk(t, "Y", "", api.ErrName)
	s.wantAlias(t, "X", "Y", false, api.ErrName)
	s.wantIn(t, "a", "Y", false, api.ErrName)
}

// TestAlias (P16.4): something that is below both, be it only one thing of many; a variable with itself.
func TestAlias(t *testing.T) {
	for _, depth := range []int{0, 50} {
		s := solved(t, nil, depth, "", "a|b|p(X)<X p(Y)|b|1<Y p(Z)|a<Z Y<V V<U U<V m(W)<T")
		for _, x := range []struct {
			two string
			yes bool
		}{
			{"X Y", true}, {"X Z", true}, {"Y Z", false}, {"Y V", true}, {"X V", true}, {"Z V", false}, {"U V", true}, {"U X", true},
			{"X X", true}, {"V V", true}, {"W W", false}, {"W X", false}, {"T T", true}, {"T W", false}, {"T U", false},
		} {
			two := strings.Fields(x.two)
			s.wantAlias(t, two[0], two[1], x.yes, api.OK)
		}
	}
}

// TestAliasTerms (P16.4): it is the same term that must be below both; that a variable is below both doesn't count.
func TestAliasTerms(t *testing.T) {
	s := solved(t, nil, 0, "", "p(X)<U p(Y)<V X<Y Y<X W<U W<V p(a)<S p(b)<R")
	s.wantAlias(t, "U", "V", false, api.OK)
	s.wantAlias(t, "S", "R", false, api.OK)
	s = solved(t, nil, 0, "", "W<U W<V a<W")
	s.wantAlias(t, "U", "V", true, api.OK)
	s = solved(t, nil, 0, "", "1<U 1<V")
	s.wantAlias(t, "U", "V", true, api.OK)
}

// TestAliasErrors (P16.4): ErrName, whichever of them is none, with a clash too; else ErrClash, whoever is asked of.
func TestAliasErrors(t *testing.T) {
	s := solved(t, nil, 0, "", "a<X X<Y")
	for _, no := range []string{"", "Z", "a", "y"} {
		s.wantAlias(t, "X", no, false, api.ErrName)
		s.wantAlias(t, no, no, false, api.ErrName)
	}
	s = solved(t, nil, 0, "W", "a<X X<Y a<b")
	for _, no := range []string{"", "Z", "a"} {
		s.wantAlias(t, "X", no, false, api.ErrName)
		s.wantAlias(t, no, no, false, api.ErrName)
	}
	s.wantAlias(t, "X", "Y", false, api.ErrClash)
	s.wantAlias(t, "X", "X", false, api.ErrClash)
	s.wantAlias(t, "X", "W", false, api.ErrClash)
}

// TestIn (P16.4): is the term there, and below?
func TestIn(t *testing.T) {
	for _, depth := range []int{0, 50} {
		s := solved(t, nil, depth, "b m(0) p(c(0,X&Y))", "a|p(X|Y)|p(a)|1<X X<Y c(Y,p~1(Z))<Y m(X)<Z Z<V V<Z")
		for _, x := range []struct {
			text, name string
			yes        bool
		}{
			{"a", "X", true}, {"a", "Y", true}, {"a", "Z", false}, {"1", "X", true}, {"1", "Y", true}, {"1", "Z", false},
			{"p(X|Y)", "X", true}, {"p(X|Y)", "Y", true}, {"p(X|Y)", "V", false}, {"p(a)", "Y", true},
			{"c(Y,p~1(Z))", "Y", true}, {"c(Y,p~1(Z))", "X", false}, {"m(X)", "Z", true}, {"m(X)", "V", true}, {"m(X)", "X", false},
			{"b", "X", false}, {"m(0)", "X", false}, {"p(c(0,X&Y))", "X", false}, // there, but not below
			{"p(b)", "X", false}, {"p(X)", "X", false}, {"p(Y|X)", "X", false}, {"p(p(a))", "X", false}, {"e(a)", "X", false}, // not there
			{"p(New)", "X", false}, {"c(New,p~1(Other))", "Y", false}, {"p(X|New)", "X", false}, // of variables that aren't there
			{"p((X|Y))", "X", true}, {"(a)", "X", true}, {"((p((X)|(Y))))", "X", true}, // brackets are no nodes
		} {
			s.wantIn(t, x.text, x.name, x.yes, api.OK)
		}
	}
}

// TestInUnknown (P16.4): the term of a constructor that isn't known, or is of another arity, is not there; it is no error.
func TestInUnknown(t *testing.T) {
	s := solved(t, nil, 0, "", "a|p(a)|p(X)<X")
	for _, text := range []string{"q", "q(X)", "a(X)", "p", "p(a,X)", "c(a)", "p(q)", "p(a~1(X))", "p(p~2(X))", "p(q~1(X))"} {
		s.wantIn(t, text, "X", false, api.OK)
	}
}

// TestInErrors (P16.4): ErrName, then ErrClash, then ErrArg; the last node alone tells of that.
func TestInErrors(t *testing.T) {
	wrong := []string{"a|b", "a&X", "p~1(X)", "X", "Y", "New", "0", "(a|b)", "a|b|1", "p~1(a|b)", "q~1(X)", "p~8(X)", "0|0", "(X)"}
	right := []string{"a", "1", "p(a|b)", "p(X&Y)", "p(p~1(X))", "p(X)", "p(0)", "q"}
	s := solved(t, nil, 0, "a|b a&X p~1(X) b", "a<X X<Y")
	clash := solved(t, nil, 0, "a|b a&X p~1(X) b", "a<X X<Y Y<b")
	for _, text := range wrong {
		for _, name := range []string{"X", "Y"} {
			s.wantIn(t, text, name, false, api.ErrArg)
			clash.wantIn(t, text, name, false, api.ErrClash)
		}
	}
	for _, text := range right {
		s.wantIn(t, text, "X", text == "a", api.OK)
		clash.wantIn(t, text, "X", false, api.ErrClash)
	}
	for _, text := range append(wrong, right...) {
		for _, no := range []string{"", "Z", "a", "x"} {
			s.wantIn(t, text, no, false, api.ErrName)
			clash.wantIn(t, text, no, false, api.ErrName)
		}
	}
}
