package expr_test

import (
	"math/rand"
	"slices"
	"strings"
	"testing"

	"tammy/api"
	"tammy/expr"
	"tammy/lex"
)

// TestRead (P7.1): ordinary texts, and at which token they end.
func TestRead(t *testing.T) {
	x, y, z := variable("X"), variable("Y"), variable("Z")
	for _, c := range []struct {
		s    string
		want []api.Node
		end  int
	}{
		{"0", []api.Node{zero}, 1},
		{"1", []api.Node{one}, 1},
		{"X", []api.Node{x}, 1},
		{"c", []api.Node{con("c", 0)}, 1},
		{"new", []api.Node{con("new", 0)}, 1},
		{"c(X|0,d~2(Y))", []api.Node{x, zero, union, y, proj("d", 2), con("c", 2)}, 13},
		{"c(X)", []api.Node{x, con("c", 1)}, 4},
		{"c(c(c),c)", []api.Node{con("c", 0), con("c", 1), con("c", 0), con("c", 2)}, 9},
		{"c~1(X)", []api.Node{x, proj("c", 1)}, 6},
		{"c~8(c~7(1))", []api.Node{one, proj("c", 7), proj("c", 8)}, 11},
		{"X|Y", []api.Node{x, y, union}, 3},
		{"X&Y", []api.Node{x, y, inter}, 3},
		{"X|Y|Z", []api.Node{x, y, union, z, union}, 5},
		{"X&Y&Z", []api.Node{x, y, inter, z, inter}, 5},
		{"X|(Y|Z)", []api.Node{x, y, z, union, union}, 7},
		{"(X|Y)|Z", []api.Node{x, y, union, z, union}, 7},
		{"(X|Y)&Z", []api.Node{x, y, union, z, inter}, 7},
		{"X|(Y&Z)|0", []api.Node{x, y, z, inter, union, zero, union}, 9},
		{"(X&Y)|(X|Y)", []api.Node{x, y, inter, x, y, union, union}, 11},
		{"(X)", []api.Node{x}, 3},
		{"((((X))))", []api.Node{x}, 9},
		{"((X)|(Y))", []api.Node{x, y, union}, 9},
		{"c((X|Y),(X&Y))", []api.Node{x, y, union, x, y, inter, con("c", 2)}, 14},
		{" ( X )\n|\tY ", []api.Node{x, y, union}, 5},
		// what can't go on behind an expression ends it
		{"X Y", []api.Node{x}, 1},
		{"X c", []api.Node{x}, 1},
		{"c X", []api.Node{con("c", 0)}, 1},
		{"X <= Y", []api.Node{x}, 1},
		{"c <= Y", []api.Node{con("c", 0)}, 1},
		{"X)", []api.Node{x}, 1},
		{"X,Y", []api.Node{x}, 1},
		{"c,Y", []api.Node{con("c", 0)}, 1},
		{"X(Y)", []api.Node{x}, 1},
		{"X~1(Y)", []api.Node{x}, 1},
		{"0(", []api.Node{zero}, 1},
		{"1 1", []api.Node{one}, 1},
		{"(X)(Y)", []api.Node{x}, 3},
		{"c(X)(Y)", []api.Node{x, con("c", 1)}, 4},
		{"c(X)~1(Y)", []api.Node{x, con("c", 1)}, 4},
		{"c~1(X)(Y)", []api.Node{x, proj("c", 1)}, 6},
		{"X|Y&Z", []api.Node{x, y, union}, 3},
		{"X&Y|Z", []api.Node{x, y, inter}, 3},
		{"X|Y&", []api.Node{x, y, union}, 3},
		{"X&Y|", []api.Node{x, y, inter}, 3},
		{"(X|Y)&Z|X", []api.Node{x, y, union, z, inter}, 7},
		{"X|Y " + tooLong, []api.Node{x, y, union}, 3},
		{"X 9", []api.Node{x}, 1},
	} {
		if got, end, e := expr.Read(toks(t, c.s), 0); !slices.Equal(got, c.want) || end != c.end || e != api.OK {
			t.Errorf("Read(%q): %v, %d, %d", c.s, got, end, e)
		}
	}
}

// TestReadErrors (P7.1): where, and why, it goes wrong first.
func TestReadErrors(t *testing.T) {
	for _, c := range []struct {
		s  string
		at int
		e  api.Errno
	}{
		{"", 0, api.ErrForm},
		{"2", 0, api.ErrForm},
		{"10", 0, api.ErrForm},
		{")", 0, api.ErrForm},
		{"|X", 0, api.ErrForm},
		{"<=", 0, api.ErrForm},
		{"~1(X)", 0, api.ErrForm},
		{"*X", 0, api.ErrForm},
		{"(", 1, api.ErrForm},
		{"()", 1, api.ErrForm},
		{"(X", 2, api.ErrForm},
		{"(X Y)", 2, api.ErrForm},
		{"(X,Y)", 2, api.ErrForm},
		{"(X|Y&Z)", 4, api.ErrForm},
		{"(X&Y|Z)", 4, api.ErrForm},
		{"(X(Y))", 2, api.ErrForm},
		{"(X~1(Y))", 2, api.ErrForm},
		{"(X<=Y)", 2, api.ErrForm},
		{"X|", 2, api.ErrForm},
		{"X&", 2, api.ErrForm},
		{"X|)", 2, api.ErrForm},
		{"X|&Y", 2, api.ErrForm},
		{"X||Y", 2, api.ErrForm},
		{"X|Y|", 4, api.ErrForm},
		{"X|2", 2, api.ErrForm},
		{"c(", 2, api.ErrForm},
		{"c()", 2, api.ErrForm},
		{"c(,X)", 2, api.ErrForm},
		{"c(X", 3, api.ErrForm},
		{"c(X,", 4, api.ErrForm},
		{"c(X,)", 4, api.ErrForm},
		{"c(X Y)", 3, api.ErrForm},
		{"c(X;Y)", 3, api.ErrForm},
		{"c(X|Y&Z)", 5, api.ErrForm},
		{"c((X,Y))", 4, api.ErrForm},
		{"c~", 2, api.ErrForm},
		{"c~X(Y)", 2, api.ErrForm},
		{"c~(Y)", 2, api.ErrForm},
		{"c~~1(X)", 2, api.ErrForm},
		{"c~1", 3, api.ErrForm},
		{"c~1 X", 3, api.ErrForm},
		{"c~1 2(X)", 3, api.ErrForm},
		{"c~1(", 4, api.ErrForm},
		{"c~1()", 4, api.ErrForm},
		{"c~1(X", 5, api.ErrForm},
		{"c~1(X,Y)", 5, api.ErrForm},
		{"c~1(X|)", 6, api.ErrForm},
		{"c~0(X)", 2, api.ErrArity},
		{"c~9(X)", 2, api.ErrArity},
		{"c~10(X)", 2, api.ErrArity},
		{"c~999999999(X)", 2, api.ErrArity},
		{"c~9", 2, api.ErrArity},
		{"c~9)", 2, api.ErrArity},
		{"c(X,d~0(X))", 6, api.ErrArity},
		{tooLong, 0, api.ErrName},
		{strings.ToUpper(tooLong), 0, api.ErrName},
		{strings.Repeat("c", 2000), 0, api.ErrName},
		{"(" + tooLong + ")", 1, api.ErrName},
		{"X|" + tooLong, 2, api.ErrName},
		{"c(X," + tooLong + ")", 4, api.ErrName},
		{tooLong + "(X)", 0, api.ErrName},
		{tooLong + "~9(X)", 0, api.ErrName},
		{"c~1(" + tooLong, 4, api.ErrName},
		// the first counts, not the worst
		{"(X Y " + tooLong, 2, api.ErrForm},
		{"c(" + tooLong + ",d~9(X))", 2, api.ErrName},
		{"c(d~9(X)," + tooLong + ")", 4, api.ErrArity},
		// where no name, or another one, may stand, its length is not what is wrong
		{"(X " + tooLong + ")", 2, api.ErrForm},
		{"c~" + tooLong, 2, api.ErrForm},
	} {
		if got, at, e := expr.Read(toks(t, c.s), 0); len(got) != 0 || at != c.at || e != c.e {
			t.Errorf("Read(%.60q): %v, %d, %d", c.s, got, at, e)
		}
	}
}

// TestNameLengths (P7.1): the longest names, and those of a byte more.
func TestNameLengths(t *testing.T) {
	for _, first := range []string{"a", "Z"} {
		name := first + strings.Repeat("_", api.MaxName-1)
		if got, end, e := expr.Read(toks(t, name), 0); len(got) != 1 || got[0].Name != name || end != 1 || e != api.OK {
			t.Errorf("Read(%q): %v, %d, %d", name, got, end, e)
		}
		if got, at, e := expr.Read(toks(t, name+"0"), 0); len(got) != 0 || at != 0 || e != api.ErrName {
			t.Errorf("Read(%q): %v, %d, %d", name+"0", got, at, e)
		}
	}
}

// TestArity (P7.1): as many expressions as may be, and one more: the comma is wrong already.
func TestArity(t *testing.T) {
	for n := 1; n <= 12; n++ {
		for _, part := range []string{"X", "X|Y", "c(0,0,0,0,0,0,0,0)", "(X&Y)", "d~8(Z)"} {
			l := toks(t, "c("+strings.Repeat(part+",", n-1)+part+")")
			got, at, e := expr.Read(l, 0)
			if n > api.MaxArity {
				// two tokens ahead, and the eighth expression's last one
				if want := 2 + 8*(len(toks(t, part))+1) - 1; len(got) != 0 || at != want || e != api.ErrArity {
					t.Errorf("%d times %s: %v, %d, %d", n, part, got, at, e)
				}
			} else if e != api.OK || at != len(l) || got[len(got)-1] != con("c", n) {
				t.Errorf("%d times %s: %v, %d, %d", n, part, got, at, e)
			}
		}
	}
	for _, end := range []string{"", ")", "2", ",", tooLong} {
		if got, at, e := expr.Read(toks(t, "c(X,X,X,X,X,X,X,X,"+end), 0); len(got) != 0 || at != 17 || e != api.ErrArity {
			t.Errorf("behind it %q: %v, %d, %d", end, got, at, e)
		}
	}
	if got, at, e := expr.Read(toks(t, "c(X,X,X,X,X,X,X,(X,X"), 0); len(got) != 0 || at != 18 || e != api.ErrForm {
		t.Errorf("a comma in other brackets: %v, %d, %d", got, at, e)
	}
}

// TestDepth (P7.1): brackets of each kind count, as long as they are open.
func TestDepth(t *testing.T) {
	for _, open := range []string{"(", "c(", "c~1(", "c(X,", "X|(", "X&(", "c(c(X),d~1(Y),(Z),"} {
		for deep := 37; deep <= 44; deep++ {
			s := strings.Repeat(open, deep) + "X" + strings.Repeat(")", deep)
			l := toks(t, s)
			got, at, e := expr.Read(l, 0)
			if deep <= api.MaxDepth && !strings.Contains(open, "(c(") || deep < api.MaxDepth {
				if e != api.OK || at != len(l) || !expr.Right(got) {
					t.Errorf("%d times %q: %v, %d, %d", deep, open, got, at, e)
				}
				continue
			}
			if want := fullAt(l); len(got) != 0 || at != want || e != api.ErrFull {
				t.Errorf("%d times %q: %v, %d, %d, not %d", deep, open, got, at, e, want)
			}
		}
	}
	for _, wrong := range []string{"c~9(", "c~(", "X(", "2("} { // with or without room, these are wrong for another reason
		few, _, e := expr.Read(toks(t, "("+wrong), 0)
		many, at, e2 := expr.Read(toks(t, strings.Repeat("(", 40)+wrong), 0)
		if len(few) != 0 || len(many) != 0 || e != e2 || e == api.ErrFull || at < 40 {
			t.Errorf("%s: %d, %d at %d", wrong, e, e2, at)
		}
	}
	if got, at, e := expr.Read(toks(t, strings.Repeat("(", 41)), 0); len(got) != 0 || at != 40 || e != api.ErrFull {
		t.Errorf("nothing behind it: %v, %d, %d", got, at, e)
	}
	l := toks(t, strings.Repeat("(", 30)+" <= "+strings.Repeat("(", 40)+"X"+strings.Repeat(")", 40))
	if got, at, e := expr.Read(l, 31); len(got) != 1 || at != len(l) || e != api.OK {
		t.Errorf("brackets ahead of the place: %v, %d, %d", got, at, e)
	}
}

// fullAt is where the 41st bracket is opened; -1, if none is.
func fullAt(l []api.Tok) int {
	open := 0
	for i, x := range l {
		switch x.Text {
		case "(":
			open++
		case ")":
			open--
		}
		if open > api.MaxDepth {
			return i
		}
	}
	return -1
}

// TestReadAll (P7.1): all short rows of one token of each sort, against what the document's words alone make of them.
func TestReadAll(t *testing.T) {
	sorts := []string{"X", "c", tooLong, "0", "1", "2", "9", "(", ")", ",", "|", "&", "~", "<="}
	g := grammar{}
	var from func(l []string)
	from = func(l []string) {
		checkRow(t, g, l)
		if len(l) == 7 || len(l) > 0 && !g.goesOn(l) {
			return
		}
		for _, s := range sorts {
			from(append(slices.Clone(l), s))
		}
	}
	from(nil)
	r := rand.New(rand.NewSource(1))
	for range 30000 {
		var l []string
		for range r.Intn(10) {
			l = append(l, sorts[r.Intn(len(sorts))])
		}
		checkRow(t, g, l)
	}
}

// checkRow holds Read of a row of tokens' texts against the grammar's own answer.
func checkRow(t *testing.T, g grammar, l []string) {
	t.Helper()
	text := strings.Join(l, " ")
	end := 0
	for end < len(l) && g.goesOn(l[:end+1]) {
		end++
	}
	want, e := g.whole(l[:end]), api.OK
	if want == nil {
		e = api.ErrForm
		switch front := slices.Clone(l[:end]); {
		case end == len(l):
		case l[end] == tooLong && g.goesOn(append(front, "X")):
			e = api.ErrName
		case strings.Contains("0 2 9", l[end]) && end > 0 && l[end-1] == "~":
			e = api.ErrArity
		}
	}
	if got, at, gotE := expr.Read(toks(t, text), 0); !slices.Equal(got, want) || at != end || gotE != e {
		t.Fatalf("Read(%q): %v, %d, %d, not %v, %d, %d", text, got, at, gotE, want, end, e)
	}
}

// TestReadLong (P7.1): long texts by chance, whole ones and such with tokens that are left out, doubled or others, against a second reading, from each of some places.
func TestReadLong(t *testing.T) {
	others := []string{"X", "c", tooLong, "0", "1", "2", "9", "(", ")", ",", "|", "&", "~", "<=", "d~3(", "c(0,0,0,0,0,0,0,", "~9", "~0", "((((((((((((((((((((((((((((((((((((("}
	seen := map[api.Errno]int{}
	for seed := range 20000 {
		r := rand.New(rand.NewSource(int64(seed)))
		x := chance(r, r.Intn(5))
		if r.Intn(3) == 0 {
			x = wrap(r, x, 37+r.Intn(8))
		}
		texts := words(t, x.text(func() bool { return r.Intn(12) == 0 }))
		for range r.Intn(3) * r.Intn(3) {
			i := r.Intn(len(texts))
			other := others[r.Intn(len(others))]
			switch r.Intn(3) {
			case 0:
				texts[i] = other
			case 1:
				texts = slices.Insert(texts, i, other)
			case 2:
				texts[i] = ""
			}
		}
		l, _, e := lex.Toks(strings.Join(texts, " "))
		if e != api.OK {
			continue
		}
		for _, at := range []int{0, r.Intn(len(l) + 1), len(l)} {
			want, wantAt, wantE := secondRead(l, at)
			seen[wantE]++
			if got, end, e := expr.Read(l, at); !slices.Equal(got, want) || end != wantAt || e != wantE {
				t.Fatalf("Read(%q, %d): %v, %d, %d, not %v, %d, %d", lex.Text(l), at, got, end, e, want, wantAt, wantE)
			}
		}
	}
	for _, e := range []api.Errno{api.OK, api.ErrForm, api.ErrName, api.ErrArity, api.ErrFull} {
		if seen[e] < 100 {
			t.Errorf("%d came %d times only", e, seen[e])
		}
	}
}

// words are the texts of a text's tokens. It may be longer than MaxText: it comes apart at brackets.
func words(t *testing.T, s string) []string {
	t.Helper()
	var out []string
	for _, piece := range strings.SplitAfter(s, "(") {
		for _, x := range toks(t, piece) {
			out = append(out, x.Text)
		}
	}
	return out
}

// TestReadAt (P7.1): from each place on; where tokens say that they begin doesn't count.
func TestReadAt(t *testing.T) {
	l := toks(t, "let c(X) <= d~1(Y)|0")
	for i := range l {
		l[i].At = -i * 7
	}
	for at, want := range map[int]struct {
		nodes int
		end   int
		e     api.Errno
	}{0: {1, 1, api.OK}, 1: {2, 5, api.OK}, 2: {1, 5, api.OK}, 3: {1, 4, api.OK}, 4: {0, 4, api.ErrForm}, 5: {0, 5, api.ErrForm}, 6: {4, 14, api.OK}, 7: {0, 7, api.ErrForm}, 8: {1, 9, api.OK}, 9: {3, 14, api.OK}, 10: {1, 11, api.OK}, 12: {0, 12, api.ErrForm}, 13: {1, 14, api.OK}, 14: {0, 14, api.ErrForm}} {
		if got, end, e := expr.Read(l, at); len(got) != want.nodes || end != want.end || e != want.e {
			t.Errorf("at %d: %v, %d, %d", at, got, end, e)
		}
	}
}

// TestReadWrong: places that aren't there, and tokens that no text has, of which nothing is promised but that the call ends.
func TestReadWrong(t *testing.T) {
	l := toks(t, "c(X)")
	for _, at := range []int{-1, -1 << 63, 5, 1<<63 - 1} {
		if got, _, e := expr.Read(l, at); len(got) != 0 || e == api.OK {
			t.Errorf("at %d: %v, %d", at, got, e)
		}
	}
	if got, at, e := expr.Read(nil, 0); len(got) != 0 || at != 0 || e != api.ErrForm {
		t.Errorf("of no tokens: %v, %d, %d", got, at, e)
	}
	r := rand.New(rand.NewSource(1))
	texts := []string{"", "c", "X", "(", ")", "~", ",", "0", "1", "01", "9999999999", "é", "|", "&", "c d"}
	for range 50000 {
		var l []api.Tok
		for range r.Intn(8) {
			l = append(l, api.Tok{Kind: r.Intn(6) - 1, Text: texts[r.Intn(len(texts))], At: r.Intn(5) - 2})
		}
		if got, _, e := expr.Read(l, r.Intn(len(l)+1)); e == api.OK && !expr.Right(got) {
			t.Fatalf("Read(%v): %v", l, got)
		}
	}
}

// TestReadMemory (R3, R4): what is handed in stays as it is, with the room behind it; answers share nothing.
func TestReadMemory(t *testing.T) {
	room := toks(t, "c(X|0,d~2(Y))&1 behind behind")
	was := slices.Clone(room)
	l := room[:len(room)-2]
	first, end, _ := expr.Read(l, 0)
	keep := slices.Clone(first)
	second, _, _ := expr.Read(l, 0)
	for i := range second[:cap(second)] {
		second[:cap(second)][i] = api.Node{Kind: -9, Name: "?", N: -9}
	}
	third, _, _ := expr.Read(l, 0)
	if end != len(l) || !slices.Equal(first, keep) || !slices.Equal(third, keep) || !slices.Equal(room, was) {
		t.Errorf("%v, %v, %v", first, third, room)
	}
}
