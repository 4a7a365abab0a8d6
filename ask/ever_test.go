package ask_test

import (
	"fmt"
	"math"
	"math/rand"
	"reflect"
	"slices"
	"strings"
	"testing"

	"tammy/api"
	"tammy/ask"
	"tammy/expr"
	"tammy/lex"
	"tammy/load"
	"tammy/solve"
	"tammy/term"
)

// TestClosure (P16.2 to P16.4): what is answered is what the closure of the constraints tells, by any ranks, and depths.
func TestClosure(t *testing.T) {
	r := rand.New(rand.NewSource(1))
	clashed, filled := 0, 0
	for range 6000 {
		s, all := chanceShelf(t, r)
		want := second(s.A, s.names, all)
		if got := ask.Clashes(s.System, s.names); !slices.Equal(got, want.clashes) {
			t.Fatalf("%v of %v: Clashes: %q, not %q", all, s.A.Keys, got, want.clashes)
		}
		for v, name := range s.names {
			texts, e := want.texts(s.A, s.names, v), api.OK
			if len(want.clashes) > 0 {
				texts, e = want.clashes[:1], api.ErrClash
				clashed++
			} else {
				filled += len(texts)
			}
			if got, why := ask.Ask(s.System, s.names, name); !slices.Equal(got, texts) || why != e {
				t.Fatalf("%v of %v: Ask(%s): %q, %d, not %q, %d", all, s.A.Keys, name, got, why, texts, e)
			}
			for w, other := range s.names {
				yes := e == api.OK && want.share(v, w)
				if got, why := ask.Alias(s.System, s.names, name, other); got != yes || why != e {
					t.Fatalf("%v of %v: Alias(%s, %s): %t, %d", all, s.A.Keys, name, other, got, why)
				}
			}
		}
	}
	if clashed < 3000 || filled < 2500 {
		t.Error(clashed, filled)
	}
}

// TestInClosure (P16.4): the same of In, of all terms that are there.
func TestInClosure(t *testing.T) {
	r, many := rand.New(rand.NewSource(2)), map[string]int{}
	for range 4000 {
		s, all := chanceShelf(t, r)
		want := second(s.A, s.names, all)
		for at, key := range s.A.Keys {
			e, why := load.Nodes(s.Sigs, s.A, s.names, at)
			if why != api.OK {
				continue
			}
			for v, name := range s.names {
				yes, e1 := false, api.OK
				switch {
				case len(want.clashes) > 0:
					e1 = api.ErrClash
				case key[0] != api.Con && key[0] != api.One:
					e1 = api.ErrArg
				default:
					yes = slices.Contains(want.below[v], at)
				}
				if got, why := ask.In(s.System, s.names, e, name); got != yes || why != e1 {
					t.Fatalf("%v of %v: In(%v, %s): %t, %d, not %t, %d", all, s.A.Keys, e, name, got, why, yes, e1)
				}
				many[fmt.Sprint(yes, e1)]++
			}
		}
	}
	if len(many) != 4 || slices.Min([]int{many["true 0"], many["false 0"], many["false 1"], many["false 9"]}) < 1000 {
		t.Error(many)
	}
}

// TestFollows (P16.5): what is asked is In, one by one, and nothing else of all that is there is; two alias, if there is a text that both answers have, and only then.
func TestFollows(t *testing.T) {
	r, in, alias := rand.New(rand.NewSource(3)), 0, 0
	for range 4000 {
		s, _ := chanceShelf(t, r)
		answers := map[string][]string{}
		for _, name := range s.names {
			texts, e := ask.Ask(s.System, s.names, name)
			if e != api.OK {
				break
			}
			answers[name] = texts
			for at := range s.A.Keys {
				text := load.Text(s.Sigs, s.A, s.names, at)
				l, _, _ := lex.Toks(text)
				n, _, _ := expr.Read(l, 0)
				if is, _ := ask.In(s.System, s.names, n, name); is != slices.Contains(texts, text) {
					t.Fatalf("Ask(%s) of %v: %q; In(%q): %t", name, s.A.Keys, texts, text, is)
				}
			}
			in += len(texts)
		}
		for x, texts := range answers {
			for y, others := range answers {
				both := slices.ContainsFunc(texts, func(text string) bool { return slices.Contains(others, text) })
				if is, e := ask.Alias(s.System, s.names, x, y); is != both || e != api.OK {
					t.Fatalf("%s: %q, %s: %q; Alias: %t, %d", x, texts, y, others, is, e)
				}
				if both && x != y {
					alias++
				}
			}
		}
	}
	if in < 1000 || alias < 500 {
		t.Error(in, alias)
	}
}

// TestTooGreat (P16.2 to P16.4): of terms too great for a text the text is nothing, of each; they are asked for as the others are.
func TestTooGreat(t *testing.T) {
	s := shelfOf(t, nil, 0, "X Y a b")
	great, e := []int{s.at(t, "a"), s.at(t, "b")}, api.OK
	for range 15 {
		for i, id := range great {
			var a api.Keyed
			a, great[i], e = term.Put(s.Sigs, s.A, api.Term{Kind: api.Con, Sym: 5, Args: []int{id, id}}, noLimit)
			if e != api.OK {
				t.Fatal(e)
			}
			s.System = solve.With(s.System, a)
		}
	}
	s.System = solve.Put(solve.Put(s.System, great[0], s.at(t, "X")), great[1], s.at(t, "X"))
	s.System = solve.Put(solve.Put(s.System, great[0], s.at(t, "Y")), s.at(t, "b"), s.at(t, "Y"))
	s.run(t)
	s.wantAsk(t, "X", ";", api.OK)
	s.wantAsk(t, "Y", ";b", api.OK)
	s.wantAlias(t, "X", "Y", true, api.OK)
	// A row of 65535 nodes, with 15 brackets open at most.
	row := func(text string) []api.Node {
		out := nodes(t, text)
		for range 15 {
			out = append(slices.Concat(out, out), api.Node{Kind: api.Con, Name: "c", N: 2})
		}
		return out
	}
	for _, x := range []struct {
		text, name string
		yes        bool
	}{{"a", "X", true}, {"b", "X", true}, {"a", "Y", true}, {"b", "Y", false}} {
		if is, e := ask.In(s.System, s.names, row(x.text), x.name); is != x.yes || e != api.OK {
			t.Errorf("In of %s, %s: %t, %d", x.text, x.name, is, e)
		}
	}
	s.System = solve.Put(solve.Put(s.System, great[0], s.at(t, "b")), great[1], s.at(t, "b"))
	s.System = solve.Put(s.System, s.at(t, "a"), 0)
	s.run(t)
	s.wantClashes(t, " <= b; <= b;a <= 0")
	s.wantAsk(t, "X", " <= b", api.ErrClash)
}

// TestTooGreatApart (P16.4): two terms that have no text are not one.
func TestTooGreatApart(t *testing.T) {
	s := shelfOf(t, nil, 0, "X Y a b")
	for _, two := range [][2]string{{"a", "X"}, {"b", "Y"}} {
		id := s.at(t, two[0])
		for range 41 {
			a, next, e := term.Put(s.Sigs, s.A, api.Term{Kind: api.Con, Sym: 2, Args: []int{id}}, noLimit)
			if e != api.OK {
				t.Fatal(e)
			}
			s.System, id = solve.With(s.System, a), next
		}
		s.System = solve.Put(s.System, id, s.at(t, two[1]))
	}
	s.run(t)
	s.wantAsk(t, "X", "", api.OK)
	if got, _ := ask.Ask(s.System, s.names, "Y"); !slices.Equal(got, []string{""}) {
		t.Errorf("%q", got)
	}
	s.wantAlias(t, "X", "Y", false, api.OK)
	deep := func(text string) []api.Node { return nodes(t, strings.Repeat("p(", 40)+text+strings.Repeat(")", 40)) }
	for _, text := range []string{"a", "b"} { // one bracket less: there, but not below
		if is, e := ask.In(s.System, s.names, deep(text), "X"); is || e != api.OK {
			t.Errorf("%s: %t, %d", text, is, e)
		}
	}
}

// TestFullStore (P16.4): nothing is laid into a store, be it ever so full, and nothing new is taken for what is there.
func TestFullStore(t *testing.T) {
	s := shelfOf(t, nil, 0, "X Y")
	text := "a"
	for len(s.A.Keys) < api.MaxTerms {
		text = "p(" + text + ")"
		if len(text) > 100 {
			text = fmt.Sprintf("c(X%d,a)", len(s.A.Keys))
		}
		s.at(t, text)
	}
	for _, more := range []string{"", "m(b)"} { // as many as may be, and more
		if more != "" {
			s.at(t, more)
		}
		x := &shelf{System: solve.Put(s.System, s.at(t, text), s.at(t, "X")), names: s.names}
		x.run(t)
		was := len(x.A.Keys)
		x.wantIn(t, text, "X", true, api.OK)
		x.wantIn(t, text, "Y", false, api.OK)
		x.wantIn(t, "e(e(a))", "X", false, api.OK)
		x.wantIn(t, "p(New)", "X", false, api.OK)
		x.wantAsk(t, "X", text, api.OK)
		if len(x.A.Keys) != was {
			t.Error(len(x.A.Keys))
		}
	}
}

// TestMany (R1): many terms below a variable, many clashes.
func TestMany(t *testing.T) {
	n := 3000
	s := api.System{Sigs: row(), A: term.New()}
	var names, want []string
	for v := range n {
		s.A.Keys = append(s.A.Keys, []int{api.Var, v, 0}, []int{api.Con, 2, 0, 2 + 2*v})
		s.G.U.V = append(s.G.U.V, v)
		names = append(names, fmt.Sprintf("X%d", v))
		want = append(want, fmt.Sprintf("p(X%d)", v))
	}
	s.G.Pre, s.G.Suc = make([][]int, n), make([][]int, n)
	for v := range n {
		s.G.Pre[n-1] = append(s.G.Pre[n-1], 3+2*v)
	}
	slices.Sort(want)
	if got, e := ask.Ask(s, names, names[n-1]); !slices.Equal(got, want) || e != api.OK {
		t.Errorf("Ask: %d texts, %d", len(got), e)
	}
	for v := range n {
		s.Clash = append(s.Clash, api.Pair{3 + 2*v, 0})
		want[v] += " <= 0"
	}
	slices.Sort(want)
	if got := ask.Clashes(s, names); !slices.Equal(got, want) {
		t.Errorf("Clashes: %d texts", len(got))
	}
}

// eachSlice goes through all slices in a value, deep ones too.
func eachSlice(v reflect.Value, do func(slice reflect.Value)) {
	switch v.Kind() {
	case reflect.Struct:
		for i := range v.NumField() {
			eachSlice(v.Field(i), do)
		}
	case reflect.Slice:
		do(v)
		for i := range v.Len() {
			eachSlice(v.Index(i), do)
		}
	}
}

// roomy is a copy of a value, all slices of which have room behind them.
func roomy[T any](value T) T { return roomyValue(reflect.ValueOf(value)).Interface().(T) }

func roomyValue(v reflect.Value) reflect.Value {
	out := reflect.New(v.Type()).Elem()
	switch v.Kind() {
	case reflect.Struct:
		for i := range v.NumField() {
			out.Field(i).Set(roomyValue(v.Field(i)))
		}
	case reflect.Slice:
		out.Set(reflect.MakeSlice(v.Type(), v.Len(), v.Len()+2))
		for i := range v.Len() {
			out.Index(i).Set(roomyValue(v.Index(i)))
		}
	default:
		out.Set(v)
	}
	return out
}

// whole is all that a value has, with the room behind each list.
func whole(value any) string {
	out := ""
	eachSlice(reflect.ValueOf(value), func(l reflect.Value) { out += fmt.Sprintf("%d %q;", l.Len(), fmt.Sprint(l.Slice(0, l.Cap()))) })
	return out
}

// TestMemory (R3, R4): what is handed in stays as it is, with the room behind it; what comes out can be written into; the same is answered again.
func TestMemory(t *testing.T) {
	r := rand.New(rand.NewSource(4))
	for range 400 {
		x, _ := chanceShelf(t, r)
		s, names := roomy(x.System), roomy(append(slices.Clone(x.names), "Last"))
		e := roomy(nodes(t, []string{"a", "1", "p(a)", "p(New)", "X|a", "c(X,p~1(New))"}[r.Intn(6)]))
		was := whole(s) + whole(names) + whole(e)
		name, other := names[r.Intn(len(names))], names[r.Intn(len(names))]
		answers := func() string {
			at, e1 := ask.Find(names, name)
			clashes := ask.Clashes(s, names)
			texts, e2 := ask.Ask(s, names, name)
			alias, e3 := ask.Alias(s, names, name, other)
			in, e4 := ask.In(s, names, e, name)
			out := fmt.Sprintf("%d %d %q %q %d %t %d %t %d", at, e1, clashes, texts, e2, alias, e3, in, e4)
			clear(clashes[:cap(clashes)])
			clear(texts[:cap(texts)])
			return out
		}
		if first, again := answers(), answers(); again != first {
			t.Fatalf("%s, then %s", first, again)
		}
		if whole(s)+whole(names)+whole(e) != was {
			t.Fatalf("what is handed in is written into: %s", was)
		}
	}
}

// TestWrong (R1): of what isn't right nothing is promised but that each call ends, and none panics.
func TestWrong(t *testing.T) {
	r := rand.New(rand.NewSource(5))
	values := []int{math.MinInt, -1, 0, 0, 1, 1, 2, 2, 3, 3, 4, 5, 6, 7, math.MaxInt}
	value := func() int { return values[r.Intn(len(values))] }
	numbers := func(many int) []int {
		out := make([]int, r.Intn(many))
		for i := range out {
			out[i] = value()
		}
		return out
	}
	rows := func() [][]int {
		out := make([][]int, r.Intn(8))
		for i := range out {
			out[i] = numbers(6)
		}
		return out
	}
	words := []string{"", "X", "Y", "a", "c", "p", "\xff", " <= ", strings.Repeat("X", 100)}
	word := func() string { return words[r.Intn(len(words))] }
	for range 20000 {
		x, _ := chanceShelf(t, rand.New(rand.NewSource(int64(r.Intn(20)))))
		s, names := x.System, x.names
		if r.Intn(2) == 0 {
			s.A.Keys = slices.Insert(slices.Clone(s.A.Keys), r.Intn(len(s.A.Keys)), rows()...)
		}
		if r.Intn(2) == 0 {
			s.A.Slots = numbers(9)
		}
		if r.Intn(2) == 0 {
			s.G.Ranks, s.G.Pre, s.G.Suc, s.G.U.V = numbers(5), rows(), rows(), numbers(6)
		}
		if r.Intn(2) == 0 {
			s.Sigs = []api.Sig{{Name: word(), Args: word()}, {Name: word(), Args: word()}}
		}
		if r.Intn(2) == 0 {
			names = []string{word(), word(), word()}
		}
		if s.Clash = nil; r.Intn(3) == 0 {
			s.Clash = []api.Pair{{value(), value()}, {value(), value()}}
		}
		e := make([]api.Node, r.Intn(5))
		for i := range e {
			e[i] = api.Node{Kind: value(), Name: word(), N: value()}
		}
		for _, name := range []string{word(), "X"} {
			ask.Find(names, name)
			ask.Clashes(s, names)
			ask.Ask(s, names, name)
			ask.Alias(s, names, name, word())
			ask.In(s, names, e, name)
		}
	}
}

// TestNothing (R1, R2): of the zero value; no nodes are no term.
func TestNothing(t *testing.T) {
	if got := ask.Clashes(api.System{}, nil); len(got) > 0 {
		t.Errorf("%q", got)
	}
	if got, e := ask.Ask(api.System{}, nil, "X"); len(got) > 0 || e != api.ErrName {
		t.Errorf("%q, %d", got, e)
	}
	if is, e := ask.Alias(api.System{}, nil, "X", "X"); is || e != api.ErrName {
		t.Errorf("%t, %d", is, e)
	}
	if is, e := ask.In(api.System{}, nil, nil, "X"); is || e != api.ErrName {
		t.Errorf("%t, %d", is, e)
	}
	s := solved(t, nil, 0, "", "a<X")
	if is, e := ask.In(s.System, s.names, nil, "X"); is || e != api.ErrArg {
		t.Errorf("%t, %d", is, e)
	}
}
