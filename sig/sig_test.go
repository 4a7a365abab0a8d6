package sig_test

import (
	"slices"
	"strings"
	"testing"

	"tammy/api"
	"tammy/sig"
)

// full is a right row of n constructors.
func full(n int) []api.Sig {
	var l []api.Sig
	for i := range n {
		l = append(l, api.Sig{Name: "c" + strings.Repeat("x", i/10) + string(rune('0'+i%10)), Args: "+-="[:i%4]})
	}
	return l
}

// TestNames (P1.1): what is a constructor's name, and what a variable's.
func TestNames(t *testing.T) {
	longest := strings.Repeat("b", api.MaxName-1)
	for _, x := range []struct {
		s          string
		con, isVar bool
	}{
		{"a", true, false},
		{"z", true, false},
		{"A", false, true},
		{"Z", false, true},
		{"ref", true, false},
		{"Ref", false, true},
		{"aZ", true, false},
		{"Az", false, true},
		{"a_", true, false},
		{"a__9", true, false},
		{"X0", false, true},
		{"a" + longest, true, false},
		{"A" + longest, false, true},
		{"a" + longest + "b", false, false},
		{"A" + longest + "b", false, false},
		{"", false, false},
		{"_", false, false},
		{"_a", false, false},
		{"0", false, false},
		{"9a", false, false},
		{" a", false, false},
		{"a ", false, false},
		{"a-b", false, false},
		{"a\x00", false, false},
		{"é", false, false},
		{"aé", false, false},
		{"a\xff", false, false},
		{"a\n", false, false},
	} {
		if sig.IsCon(x.s) != x.con {
			t.Errorf("IsCon(%q) is %v", x.s, !x.con)
		}
		if sig.IsVar(x.s) != x.isVar {
			t.Errorf("IsVar(%q) is %v", x.s, !x.isVar)
		}
	}
}

// TestNameBytes (P1.1): every byte, as a name's first, and as its second, and as its last.
func TestNameBytes(t *testing.T) {
	const small, great = "abcdefghijklmnopqrstuvwxyz", "ABCDEFGHIJKLMNOPQRSTUVWXYZ"
	for i := range 256 {
		c := string([]byte{byte(i)})
		if got, want := sig.IsCon(c), strings.Contains(small, c); got != want {
			t.Errorf("IsCon(%q) is %v", c, got)
		}
		if got, want := sig.IsVar(c), strings.Contains(great, c); got != want {
			t.Errorf("IsVar(%q) is %v", c, got)
		}
		want := strings.Contains(small+great+"0123456789_", c)
		for _, rest := range []string{c, c + "z", "0_" + c, strings.Repeat("q", api.MaxName-2) + c} {
			if got := sig.IsCon("a" + rest); got != want {
				t.Errorf("IsCon(%q) is %v", "a"+rest, got)
			}
			if got := sig.IsVar("A" + rest); got != want {
				t.Errorf("IsVar(%q) is %v", "A"+rest, got)
			}
		}
	}
}

// TestRight (P1.1): which rows are right.
func TestRight(t *testing.T) {
	twice := full(api.MaxSigs)
	twice[api.MaxSigs-1].Name = twice[0].Name
	for i, x := range []struct {
		l    []api.Sig
		want bool
	}{
		{nil, true},
		{[]api.Sig{}, true},
		{[]api.Sig{{Name: "a"}}, true},
		{[]api.Sig{{Name: "a", Args: "+-=+-=+-"}}, true},
		{[]api.Sig{{Name: "a", Args: "+"}, {Name: "b", Args: "+"}}, true},
		{full(api.MaxSigs), true},
		{full(api.MaxSigs + 1), false},
		{twice, false},
		{[]api.Sig{{}}, false},
		{[]api.Sig{{Name: "A"}}, false},
		{[]api.Sig{{Name: "a"}, {Name: "9"}}, false},
		{[]api.Sig{{Name: "a", Args: "+-=+-=+-="}}, false},
		{[]api.Sig{{Name: "a", Args: "+ -"}}, false},
		{[]api.Sig{{Name: "a"}, {Name: "b", Args: "++x"}}, false},
		{[]api.Sig{{Name: "a"}, {Name: "b"}, {Name: "a"}}, false},
		{[]api.Sig{{Name: "a", Args: "+"}, {Name: "a", Args: "-"}}, false},
		{[]api.Sig{{Name: strings.Repeat("a", api.MaxName)}}, true},
		{[]api.Sig{{Name: strings.Repeat("a", api.MaxName+1)}}, false},
	} {
		if got := sig.Right(x.l); got != x.want {
			t.Errorf("%d: Right is %v", i, got)
		}
	}
}

// TestArgBytes (P1.1, P1.2): every byte, as how a part varies.
func TestArgBytes(t *testing.T) {
	for i := range 256 {
		c := string([]byte{byte(i)})
		want := strings.Contains("+-=", c)
		for _, args := range []string{c, c + "+", "-=" + c, "+++++++" + c} {
			s := api.Sig{Name: "a", Args: args}
			if got := sig.Right([]api.Sig{s}); got != want {
				t.Errorf("Right with %q is %v", args, got)
			}
			if _, e := sig.Add(nil, s); (e == api.OK) != want || e != api.OK && e != api.ErrArg {
				t.Errorf("Add with %q is %d", args, e)
			}
		}
	}
}

// TestFind (P1.1): the first of a name, in right rows and in others.
func TestFind(t *testing.T) {
	l := []api.Sig{{Name: "a", Args: "+"}, {Name: "b"}, {Name: "a"}, {Name: ""}, {Name: "B"}, {Name: "b"}}
	for name, want := range map[string]int{"a": 0, "b": 1, "": 3, "B": 4, "A": -1, "ab": -1, "a ": -1} {
		if got := sig.Find(l, name); got != want {
			t.Errorf("Find of %q is %d", name, got)
		}
	}
	if sig.Find(nil, "a") != -1 || sig.Find(nil, "") != -1 || sig.Find([]api.Sig{}, "a") != -1 {
		t.Error("something is found in nothing")
	}
	long := full(api.MaxSigs + 9)
	for i, s := range long {
		if got := sig.Find(long, s.Name); got != i {
			t.Errorf("Find of %q is %d", s.Name, got)
		}
	}
}

// TestSame (P1.1, R3): rows are the same if their elements are, in their order, right or not.
func TestSame(t *testing.T) {
	a, b := api.Sig{Name: "a", Args: "+"}, api.Sig{Name: "b"}
	wrong := api.Sig{Name: "9", Args: "x"}
	for i, x := range []struct {
		a, b []api.Sig
		want bool
	}{
		{nil, nil, true},
		{nil, []api.Sig{}, true},
		{[]api.Sig{a, b}, []api.Sig{a, b}, true},
		{[]api.Sig{wrong, wrong}, []api.Sig{wrong, wrong}, true},
		{[]api.Sig{a, b}, []api.Sig{b, a}, false},
		{[]api.Sig{a, b}, []api.Sig{a}, false},
		{[]api.Sig{a}, []api.Sig{a, b}, false},
		{nil, []api.Sig{a}, false},
		{nil, []api.Sig{{}}, false},
		{[]api.Sig{a}, []api.Sig{{Name: "a", Args: "-"}}, false},
		{[]api.Sig{a}, []api.Sig{{Name: "b", Args: "+"}}, false},
		{[]api.Sig{a}, []api.Sig{{Name: "a+"}}, false},
	} {
		if sig.Same(x.a, x.b) != x.want || sig.Same(x.b, x.a) != x.want {
			t.Errorf("%d: Same is %v", i, !x.want)
		}
	}
	if l := full(api.MaxSigs + 9); !sig.Same(l, slices.Clone(l)) {
		t.Error("a copy isn't the same")
	}
}

// TestAdd (P1.2): a constructor comes behind the others.
func TestAdd(t *testing.T) {
	var l []api.Sig
	for i, s := range full(api.MaxSigs) {
		was := slices.Clone(l)
		m, e := sig.Add(l, s)
		if e != api.OK || !slices.Equal(m, append(was, s)) {
			t.Fatalf("%d: %v, %d", i, m, e)
		}
		l = m
	}
	if l, e := sig.Add([]api.Sig{}, api.Sig{Name: "a", Args: "========"}); e != api.OK || !slices.Equal(l, []api.Sig{{Name: "a", Args: "========"}}) {
		t.Error(l, e)
	}
}

// TestAddErrors (P1.2, R1): each error, the first one where several apply, and l with it.
func TestAddErrors(t *testing.T) {
	two, all := full(2), full(api.MaxSigs)
	long := strings.Repeat("a", api.MaxName+1)
	for i, x := range []struct {
		l []api.Sig
		s api.Sig
		e api.Errno
	}{
		{two, api.Sig{}, api.ErrName},
		{two, api.Sig{Name: "A"}, api.ErrName},
		{two, api.Sig{Name: long}, api.ErrName},
		{two, api.Sig{Name: "a.b"}, api.ErrName},
		{nil, api.Sig{Name: "9"}, api.ErrName},
		{two, api.Sig{Name: "a", Args: "*"}, api.ErrArg},
		{two, api.Sig{Name: "a", Args: "+++++++++"}, api.ErrArg},
		{nil, api.Sig{Name: "a", Args: "+ +"}, api.ErrArg},
		{two, two[0], api.ErrTwice},
		{two, api.Sig{Name: two[1].Name, Args: "==="}, api.ErrTwice},
		{all, api.Sig{Name: "a"}, api.ErrFull},
		{two, api.Sig{Name: "A", Args: "x"}, api.ErrName},
		{all, api.Sig{Name: "A"}, api.ErrName},
		{two, api.Sig{Name: two[0].Name, Args: "x"}, api.ErrArg},
		{all, api.Sig{Name: "a", Args: "x"}, api.ErrArg},
		{all, all[0], api.ErrTwice},
		{all, all[api.MaxSigs-1], api.ErrTwice},
	} {
		l, e := sig.Add(x.l, x.s)
		if e != x.e || !slices.Equal(l, x.l) {
			t.Errorf("%d: %v, %d", i, l, e)
		}
	}
}

// TestAddMemory (R3): what is handed in stays as it is, whatever is done with what comes out, or with the room behind it.
func TestAddMemory(t *testing.T) {
	base := full(10)
	l, was := base[:3], slices.Clone(base)
	a, _ := sig.Add(l, api.Sig{Name: "a"})
	b, _ := sig.Add(l, api.Sig{Name: "b"})
	if !slices.Equal(base, was) {
		t.Fatal("Add writes behind the row")
	}
	if a[3].Name != "a" || b[3].Name != "b" {
		t.Fatal("two answers share memory")
	}
	c, e := sig.Add(l, api.Sig{Name: "C"})
	if e != api.ErrName {
		t.Fatal(e)
	}
	a[0].Name, b[1].Name, c[2].Name = "p", "q", "r"
	if !slices.Equal(base, was) || a[1].Name == "q" || b[2].Name == "r" {
		t.Error("an answer shares memory")
	}
}

// TestBoth (P1.3): all pairs of bytes.
func TestBoth(t *testing.T) {
	known := map[string]byte{"++": '+', "--": '+', "+-": '-', "-+": '-'}
	for o := range 256 {
		for i := range 256 {
			want, ok := known[string([]byte{byte(o), byte(i)})]
			if !ok {
				want = '='
			}
			if got := sig.Both(byte(o), byte(i)); got != want {
				t.Errorf("Both(%q, %q) is %q", byte(o), byte(i), got)
			}
		}
	}
}

// TestRightComesOut (P1.4): of right rows Add makes right ones, whatever is added, and with an error too.
func TestRightComesOut(t *testing.T) {
	names := []string{"", "a", "c0", "c1", "A", "9", "a b", "_", strings.Repeat("a", api.MaxName), strings.Repeat("a", api.MaxName+1)}
	args := []string{"", "+", "-", "=", "+-=", "x", "++++++++", "+++++++++"}
	for n := range api.MaxSigs + 1 {
		for _, name := range names {
			for _, arg := range args {
				s := api.Sig{Name: name, Args: arg}
				l, e := sig.Add(full(n), s)
				if !sig.Right(l) || (e == api.OK) != (len(l) == n+1) {
					t.Fatalf("%d and %v: %v, %d", n, s, l, e)
				}
			}
		}
	}
}

// TestBothOrder (P1.4): Both hangs on no order, nor on brackets, whatever the bytes.
func TestBothOrder(t *testing.T) {
	for i := range 256 {
		for j := range 256 {
			a, b := byte(i), byte(j)
			if sig.Both(a, b) != sig.Both(b, a) {
				t.Fatalf("order: %q %q", a, b)
			}
			for k := range 256 {
				if c := byte(k); sig.Both(sig.Both(a, b), c) != sig.Both(a, sig.Both(b, c)) {
					t.Fatalf("brackets: %q %q %q", a, b, c)
				}
			}
		}
	}
}
