package work_test

import (
	"math"
	"slices"
	"testing"

	"tammy/api"
	"tammy/hash"
	"tammy/work"
)

// TestNew (P11.1): nothing waits, nothing was seen, and it is right.
func TestNew(t *testing.T) {
	w := work.New()
	if len(w.L) != 0 || len(w.Seen.Keys) != 0 || !slices.Equal(w.Seen.Slots, make([]int, 8)) || !work.Right(w) {
		t.Errorf("%v", w)
	}
	if got, p, is := work.Next(w); is || p != (api.Pair{}) || !equal(got, w) {
		t.Errorf("of nothing comes %v, %v, %v", got, p, is)
	}
}

// TestLess (P11.1): by the first number, then by the second one, at each edge.
func TestLess(t *testing.T) {
	for _, x := range []struct {
		p, q api.Pair
		want bool
	}{
		{api.Pair{1, 5}, api.Pair{2, 1}, true}, {api.Pair{2, 1}, api.Pair{1, 5}, false},
		{api.Pair{1, 1}, api.Pair{1, 2}, true}, {api.Pair{1, 2}, api.Pair{1, 1}, false},
		{api.Pair{1, 2}, api.Pair{1, 2}, false}, {api.Pair{}, api.Pair{}, false},
		{api.Pair{0, 9}, api.Pair{1, 0}, true}, {api.Pair{1, 9}, api.Pair{2, 9}, true},
		{api.Pair{-1, 0}, api.Pair{0, -1}, true}, {api.Pair{0, -1}, api.Pair{0, 0}, true}, {api.Pair{-2, -2}, api.Pair{-2, -3}, false},
		{api.Pair{math.MinInt, 0}, api.Pair{math.MaxInt, 0}, true}, {api.Pair{math.MaxInt, 0}, api.Pair{math.MinInt, 0}, false},
		{api.Pair{3, math.MinInt}, api.Pair{3, math.MaxInt}, true}, {api.Pair{3, math.MaxInt}, api.Pair{3, math.MinInt}, false},
		{api.Pair{9, 10}, api.Pair{10, 9}, true}, {api.Pair{256, 0}, api.Pair{1, 0}, false},
	} {
		if work.Less(x.p, x.q) != x.want {
			t.Errorf("Less(%v, %v) is %v", x.p, x.q, !x.want)
		}
	}
	for _, a := range edges() {
		for _, b := range edges() {
			for _, c := range edges() {
				for _, d := range edges() {
					p, q := api.Pair{a, b}, api.Pair{c, d}
					if work.Less(p, q) != isLess(p, q) || p != q && work.Less(p, q) == work.Less(q, p) {
						t.Errorf("Less(%v, %v) is %v", p, q, work.Less(p, q))
					}
				}
			}
		}
	}
}

// TestRight (P11.1): queues that are right, and each way in which one isn't.
func TestRight(t *testing.T) {
	a, b, c, d, e := api.Pair{1, 1}, api.Pair{1, 2}, api.Pair{2, 0}, api.Pair{2, 1}, api.Pair{3, 0}
	for i, x := range []struct {
		w    api.Queue
		want bool
	}{
		{queue(), true}, {queue(a), true}, {queue(a, b), true}, {queue(a, b, c, d, e), true},
		{queue(a, c, b), true}, {queue(a, b, e, c, d), true}, {queue(a, d, b, e, c), false},
		{queue(b, a), false}, {queue(a, b, c, e, d), true}, {queue(b, c, a), false}, {queue(b, a, c), false},
		{queue(a, c, d, b), false}, {queue(a, c, d, e, b), false}, {queue(a, b, d, e, e), false}, {queue(a, b, d, e, d, c), false}, {queue(a, b, d, e, e, e, c), false},
		{api.Queue{Seen: seen(a, b)}, true}, {api.Queue{L: []api.Pair{b}, Seen: seen(a, b, c)}, true}, {api.Queue{L: []api.Pair{a, b}, Seen: seen(b, c, a)}, true}, {api.Queue{L: []api.Pair{}, Seen: seen()}, true},
		{api.Queue{L: []api.Pair{a}, Seen: seen()}, false}, {api.Queue{L: []api.Pair{a, b}, Seen: seen(a)}, false}, {api.Queue{L: []api.Pair{a, b}, Seen: seen(b, c)}, false}, {api.Queue{L: []api.Pair{b}, Seen: seen(api.Pair{2, 1})}, false},
		{api.Queue{L: []api.Pair{a, a}, Seen: seen(a)}, false}, {api.Queue{L: []api.Pair{a, b, b}, Seen: seen(a, b)}, false}, {api.Queue{L: []api.Pair{a, b, c, d, c}, Seen: seen(a, b, c, d, e)}, false},
		{api.Queue{}, false}, {api.Queue{Seen: api.Keyed{Slots: make([]int, 7)}}, false}, {api.Queue{Seen: api.Keyed{Slots: make([]int, 16)}}, false}, {api.Queue{Seen: seen(a, a)}, false}, {api.Queue{L: []api.Pair{a}, Seen: seen(a, a)}, false},
		{api.Queue{L: []api.Pair{a}, Seen: api.Keyed{Keys: [][]int{{1, 1}}}}, false}, {api.Queue{L: []api.Pair{a}, Seen: api.Keyed{Keys: [][]int{{1, 1}}, Slots: make([]int, 8)}}, false},
	} {
		if work.Right(x.w) != x.want || secondRight(x.w) != x.want {
			t.Errorf("%d: Right(%v) is %v", i, x.w, work.Right(x.w))
		}
	}
}

// TestRightKeys (P11.1): what was seen is pairs alone, whether they wait or not.
func TestRightKeys(t *testing.T) {
	for _, key := range [][]int{nil, {1}, {0}, {1, 2, 0}, {1, 2, 3}, {1, 2, 3, 4}} {
		for _, keys := range [][][]int{{key}, {key, {1, 2}}, {{1, 2}, key}, {{1, 2}, {1, 1}, key, {5, 5}}} {
			for _, l := range [][]api.Pair{nil, {{1, 2}}} {
				if w := (api.Queue{L: l, Seen: api.Keyed{Keys: keys, Slots: hash.Lay(keys)}}); work.Right(w) {
					t.Errorf("%v is right", w)
				}
			}
		}
	}
}

// TestRightRows (P11.1): all rows of up to five pairs, where all, or all but one, were seen, against a second reading.
func TestRightRows(t *testing.T) {
	of := []api.Pair{{0, 1}, {1, 0}, {1, 1}, {2, -1}}
	many := map[bool]int{}
	for _, l := range rows(of, 5) {
		for i := range len(of) + 1 {
			w := api.Queue{L: l, Seen: seen(of...)}
			if i < len(of) {
				w.Seen = seen(slices.Delete(slices.Clone(of), i, i+1)...)
			}
			got, want := work.Right(w), secondRight(w)
			if got != want {
				t.Fatalf("Right(%v) is %v", w, got)
			}
			many[got]++
		}
	}
	if many[true] < 20 || many[false] < 1000 {
		t.Errorf("%v", many)
	}
}

// TestRightEach (P11.1): in a row of many one that is too small, or is there twice, is seen wherever it stands; and so are slots that aren't the keys', laid.
func TestRightEach(t *testing.T) {
	var l []api.Pair
	for i := range 70 {
		l = append(l, api.Pair{2 * i, 1})
	}
	w := queue(l...)
	if !work.Right(w) {
		t.Fatal("a row that rises isn't right")
	}
	for i := 1; i < len(l); i++ {
		x := slices.Clone(l)
		x[i] = api.Pair{l[(i-1)/2][0] - 1, 5}
		if work.Right(queue(x...)) {
			t.Errorf("the one at %d is less than that above it", i)
		}
		x[i] = api.Pair{l[(i-1)/2][0], 2}
		if !work.Right(queue(x...)) {
			t.Errorf("the one at %d isn't less than that above it", i)
		}
		x[i] = l[(i-1)/2]
		if work.Right(api.Queue{L: x, Seen: w.Seen}) {
			t.Errorf("the one at %d is there twice", i)
		}
	}
	for i := range w.Seen.Slots {
		for _, v := range []int{-1, 0, 1, 70, 71, math.MinInt, math.MaxInt} {
			x := clone(w)
			x.Seen.Slots[i] = v
			if got, want := work.Right(x), v == w.Seen.Slots[i]; got != want {
				t.Errorf("%d at slot %d: Right is %v", v, i, got)
			}
		}
	}
}

// TestSame (P11.1, R3): pairs, keys and slots, element by element.
func TestSame(t *testing.T) {
	a, b := api.Pair{1, 2}, api.Pair{2, 1}
	for i, x := range []struct {
		a, b api.Queue
		want bool
	}{
		{work.New(), work.New(), true}, {work.New(), queue(), true}, {api.Queue{}, api.Queue{L: []api.Pair{}, Seen: api.Keyed{Keys: [][]int{}, Slots: []int{}}}, true},
		{queue(a, b), queue(a, b), true}, {queue(a, b), queue(b, a), false}, {queue(a), queue(b), false}, {queue(a), queue(a, b), false}, {queue(), queue(a), false},
		{api.Queue{L: []api.Pair{a}, Seen: seen(a, b)}, api.Queue{L: []api.Pair{a}, Seen: seen(a)}, false}, {api.Queue{L: []api.Pair{a}, Seen: seen(a, b)}, api.Queue{L: []api.Pair{b}, Seen: seen(a, b)}, false}, {api.Queue{L: []api.Pair{a}, Seen: seen(a, b)}, api.Queue{Seen: seen(a, b)}, false},
		{api.Queue{Seen: seen(a, b)}, api.Queue{Seen: seen(b, a)}, false}, {api.Queue{Seen: api.Keyed{Keys: seen(a).Keys}}, api.Queue{Seen: seen(a)}, false}, {api.Queue{Seen: api.Keyed{Slots: seen(a).Slots}}, api.Queue{Seen: seen(a)}, false},
		{api.Queue{}, work.New(), false}, {api.Queue{L: []api.Pair{b, a, a}}, api.Queue{L: []api.Pair{b, a, a}}, true}, {api.Queue{L: []api.Pair{a, b, a}}, api.Queue{L: []api.Pair{a, b, b}}, false},
	} {
		if work.Same(x.a, x.b) != x.want || work.Same(x.b, x.a) != x.want {
			t.Errorf("%d: Same is %v", i, !x.want)
		}
	}
}

// TestExample (P11.2, P11.3): the document's.
func TestExample(t *testing.T) {
	w := work.New()
	for i, x := range []struct {
		p     api.Pair
		isNew bool
		l     []api.Pair
	}{{api.Pair{2, 1}, true, []api.Pair{{2, 1}}}, {api.Pair{1, 5}, true, []api.Pair{{1, 5}, {2, 1}}}, {api.Pair{2, 1}, false, []api.Pair{{1, 5}, {2, 1}}}} {
		v, isNew := work.Put(w, x.p)
		if isNew != x.isNew || !slices.Equal(v.L, x.l) {
			t.Errorf("%d: %v, %v", i, v, isNew)
		}
		w = v
	}
	if !equal(w, api.Queue{L: []api.Pair{{1, 5}, {2, 1}}, Seen: seen(api.Pair{2, 1}, api.Pair{1, 5})}) {
		t.Errorf("%v", w)
	}
	w, p, is := work.Next(w)
	if p != (api.Pair{1, 5}) || !is || !equal(w, api.Queue{L: []api.Pair{{2, 1}}, Seen: seen(api.Pair{2, 1}, api.Pair{1, 5})}) {
		t.Errorf("%v, %v, %v", w, p, is)
	}
	// It came already: what was seen is seen for ever.
	if v, isNew := work.Put(w, api.Pair{1, 5}); isNew || !equal(v, w) {
		t.Errorf("%v, %v", v, isNew)
	}
}

// TestPut (P11.2): where a pair comes to stand, told by hand.
func TestPut(t *testing.T) {
	at := func(firsts ...int) []api.Pair {
		var l []api.Pair
		for _, n := range firsts {
			l = append(l, api.Pair{n, 0})
		}
		return l
	}
	for _, x := range []struct {
		l    []api.Pair
		p    int
		want []api.Pair
	}{
		{at(), 5, at(5)}, {at(5), 7, at(5, 7)}, {at(5), 3, at(3, 5)}, {at(3, 5), 4, at(3, 5, 4)}, {at(3, 5), 1, at(1, 5, 3)},
		{at(1, 5, 3), 4, at(1, 4, 3, 5)}, {at(1, 5, 3), 0, at(0, 1, 3, 5)}, {at(1, 5, 3), 9, at(1, 5, 3, 9)},
		{at(1, 5, 3, 9, 8, 7), 2, at(1, 5, 2, 9, 8, 7, 3)}, {at(1, 5, 3, 9, 8, 7, 4), 6, at(1, 5, 3, 6, 8, 7, 4, 9)}, {at(1, 5, 3, 9, 8, 7, 4), 0, at(0, 1, 3, 5, 8, 7, 4, 9)}, {at(1, 5, 3, 9, 8, 7, 4), -1, at(-1, 1, 3, 5, 8, 7, 4, 9)},
	} {
		w, isNew := work.Put(queue(x.l...), api.Pair{x.p, 0})
		if !isNew || !slices.Equal(w.L, x.want) {
			t.Errorf("%d into %v: %v, not %v", x.p, x.l, w.L, x.want)
		}
	}
}

// TestNextLeft (P11.3): what is left, told by hand: the lesser of the two below goes up, the left or the right one, or the left one alone.
func TestNextLeft(t *testing.T) {
	for _, x := range []struct{ l, want []api.Pair }{
		{[]api.Pair{{1, 0}}, nil},
		{[]api.Pair{{1, 0}, {2, 0}}, []api.Pair{{2, 0}}},
		{[]api.Pair{{1, 0}, {2, 0}, {3, 0}}, []api.Pair{{2, 0}, {3, 0}}},
		{[]api.Pair{{1, 0}, {3, 0}, {2, 0}}, []api.Pair{{2, 0}, {3, 0}}},
		{[]api.Pair{{1, 0}, {2, 0}, {3, 0}, {4, 0}}, []api.Pair{{2, 0}, {4, 0}, {3, 0}}},
		{[]api.Pair{{1, 0}, {3, 0}, {2, 0}, {4, 0}}, []api.Pair{{2, 0}, {3, 0}, {4, 0}}},
		{[]api.Pair{{1, 0}, {1, 2}, {1, 1}, {9, 9}}, []api.Pair{{1, 1}, {1, 2}, {9, 9}}},
		{[]api.Pair{{1, 0}, {2, 0}, {5, 0}, {3, 0}, {4, 0}, {6, 0}}, []api.Pair{{2, 0}, {3, 0}, {5, 0}, {6, 0}, {4, 0}}},
		{[]api.Pair{{1, 0}, {2, 0}, {5, 0}, {4, 0}, {3, 0}, {6, 0}}, []api.Pair{{2, 0}, {3, 0}, {5, 0}, {4, 0}, {6, 0}}},
		{[]api.Pair{{1, 0}, {5, 0}, {2, 0}, {9, 0}, {8, 0}, {7, 0}, {6, 0}}, []api.Pair{{2, 0}, {5, 0}, {6, 0}, {9, 0}, {8, 0}, {7, 0}}},
		{[]api.Pair{{1, 0}, {2, 0}, {3, 0}, {7, 0}, {8, 0}, {9, 0}, {4, 0}}, []api.Pair{{2, 0}, {4, 0}, {3, 0}, {7, 0}, {8, 0}, {9, 0}}},
	} {
		w, p, is := work.Next(queue(x.l...))
		if p != x.l[0] || !is || !slices.Equal(w.L, x.want) || !equal(w, api.Queue{L: x.want, Seen: seen(x.l...)}) {
			t.Errorf("Next(%v): %v, %v, %v", x.l, w, p, is)
		}
	}
}

// TestOrders (P11.2, P11.3, P11.4): up to seven pairs put in each order, each again, then all taken, against second readings.
func TestOrders(t *testing.T) {
	pairs := []api.Pair{{0, 3}, {0, 5}, {1, -1}, {1, 4}, {2, 2}, {3, 0}, {3, 1}}
	for many := range len(pairs) + 1 {
		for _, order := range orders(pairs[:many]) {
			w := work.New()
			for _, p := range order {
				w = wantPut(t, w, p)
				w = wantPut(t, w, p)
			}
			for _, p := range pairs[:many] {
				if w.L[0] != p {
					t.Fatalf("%v: %v comes, not %v", order, w.L[0], p)
				}
				w = wantNext(t, w)
			}
			wantNext(t, w)
		}
	}
}
