package uf_test

import (
	"math"
	"math/rand"
	"slices"
	"testing"

	"tammy/api"
	"tammy/trail"
	"tammy/uf"
)

// deep is a copy that shares nothing.
func deep(u api.Cells) api.Cells {
	return api.Cells{V: slices.Clone(u.V), Notes: slices.Clone(u.Notes), Marks: slices.Clone(u.Marks)}
}

// many is so many numbers, each a class of its own.
func many(n int) api.Cells {
	var u api.Cells
	for range n {
		u = uf.Add(u)
	}
	return u
}

// eachRow tells all rows of those numbers, of that length.
func eachRow(of []int, long int, do func(row []int)) {
	row := make([]int, long)
	var from func(at int)
	from = func(at int) {
		if at == long {
			do(row)
			return
		}
		for _, n := range of {
			row[at] = n
			from(at + 1)
		}
	}
	from(0)
}

// someRanks are rows of ranks: none, too short, all the same, rising, falling, below 0, at the ends of the numbers, and too long.
func someRanks() [][]int {
	return [][]int{
		nil, {}, {1}, {-1}, {0, 0, 1}, {7, 7, 7, 7}, {1, 2, 3, 4}, {4, 3, 2, 1}, {0, -1, 0, -1}, {2, 0, 2, -3},
		{math.MaxInt, math.MinInt, math.MaxInt, math.MinInt}, {math.MinInt, 0, math.MaxInt}, {0, 0, 0, 0, -9, -8},
	}
}

// rank is the rank of n, by the document's words.
func rank(ranks []int, n int) int {
	if n < 0 || n >= len(ranks) {
		return 0
	}
	return ranks[n]
}

// wantLess is the order, by the document's words.
func wantLess(ranks []int, a, b int) bool {
	x, y := rank(ranks, a), rank(ranks, b)
	return x < y || x == y && a < b
}

// wantRight are the document's words for classes, of cells without notes and marks.
func wantRight(v, ranks []int) bool {
	for n, cell := range v {
		isOwn := cell == n
		isOneAhead := cell >= 0 && cell < len(v) && wantLess(ranks, cell, n)
		if !isOwn && !isOneAhead {
			return false
		}
	}
	return true
}

// wantFind are the document's words for the first one.
func wantFind(v []int, n int) int {
	if v[n] == n {
		return n
	}
	return wantFind(v, v[n])
}

// eachClasses tells all classes of up to four numbers, by each of someRanks: without notes and marks.
func eachClasses(do func(v, ranks []int)) {
	for _, ranks := range someRanks() {
		for n := range 5 {
			eachRow([]int{0, 1, 2, 3}, n, func(v []int) {
				if wantRight(v, ranks) {
					do(v, ranks)
				}
			})
		}
	}
}

// TestLess (P5.1): ranks first, then the numbers; no rank below 0 and behind the row but 0.
func TestLess(t *testing.T) {
	ranks := []int{5, -5, 0, 5}
	for i, x := range []struct {
		ranks []int
		a, b  int
		want  bool
	}{
		{nil, 1, 2, true},
		{nil, 2, 1, false},
		{nil, 1, 1, false},
		{nil, -2, -1, true},
		{nil, -1, 0, true},
		{nil, 0, -1, false},
		{nil, math.MinInt, math.MaxInt, true},
		{nil, math.MaxInt, math.MinInt, false},
		{ranks, 0, 1, false},
		{ranks, 1, 0, true},
		{ranks, 0, 3, true}, // the same rank
		{ranks, 3, 0, false},
		{ranks, 2, 0, true},
		{ranks, 2, 4, true}, // 4 is behind the row: rank 0, too
		{ranks, 4, 2, false},
		{ranks, 4, 0, true},
		{ranks, 0, 4, false},
		{ranks, 1, 4, true},
		{ranks, math.MaxInt, 3, true},
		{ranks, math.MaxInt, 2, false},
		{ranks, -1, 2, true}, // -1 is below 0: rank 0, too
		{ranks, -1, 0, true},
		{ranks, -1, 1, false},
		{ranks, 1, -1, true},
		{ranks, math.MinInt, 0, true},
		{[]int{math.MinInt, math.MaxInt}, 0, 1, true},
		{[]int{math.MaxInt, math.MinInt}, 0, 1, false},
		{[]int{math.MinInt, 1}, 0, 1, true},
		{[]int{-1, math.MaxInt}, 1, 0, false},
	} {
		if got := uf.Less(x.ranks, x.a, x.b); got != x.want || wantLess(x.ranks, x.a, x.b) != x.want {
			t.Errorf("%d: is %d ahead of %d by %v: %v", i, x.a, x.b, x.ranks, got)
		}
	}
}

// TestLessAll (P5.1): of each two numbers that differ one is ahead, by the document's words; none is ahead of itself.
func TestLessAll(t *testing.T) {
	numbers := []int{math.MinInt, -2, -1, 0, 1, 2, 3, 4, 5, 6, math.MaxInt}
	for _, ranks := range someRanks() {
		for _, a := range numbers {
			for _, b := range numbers {
				got := uf.Less(ranks, a, b)
				if got != wantLess(ranks, a, b) || (a != b) != (got != uf.Less(ranks, b, a)) {
					t.Errorf("is %d ahead of %d by %v: %v", a, b, ranks, got)
				}
			}
		}
	}
}

// TestRight (P5.1): classes, and each way in which cells are none.
func TestRight(t *testing.T) {
	grown := []api.Note{{At: -1}, {At: -1}, {At: -1}}
	for i, x := range []struct {
		u     api.Cells
		ranks []int
		want  bool
	}{
		{api.Cells{}, nil, true},
		{api.Cells{}, []int{3, 1}, true},
		{api.Cells{V: []int{0, 1, 2}}, nil, true},
		{api.Cells{V: []int{0, 1, 2}, Notes: grown, Marks: []int{0, 3}}, nil, true},
		{api.Cells{V: []int{0, 1, 1}, Notes: append(grown, api.Note{At: 2, Was: 2}), Marks: []int{3}}, nil, true},
		{api.Cells{V: []int{0, 0, 1}}, nil, true},
		{api.Cells{V: []int{1, 1, 1}}, []int{1}, true}, // 1 and 2 have rank 0
		{api.Cells{V: []int{1, 1, 1}}, []int{1, 1}, false},
		{api.Cells{V: []int{2, 0, 2}}, []int{1, 2, 0}, true},
		{api.Cells{V: []int{2, 0, 2}}, []int{1, 2}, true},
		{api.Cells{V: []int{2, 0, 2}}, []int{1, 1, 0}, true}, // 0 and 1 have one rank
		{api.Cells{V: []int{2, 0, 2}}, []int{1, 0, 0}, false},
		{api.Cells{V: []int{1, 1}}, nil, false},
		{api.Cells{V: []int{0, 0}}, []int{0, -1}, false},
		{api.Cells{V: []int{1, 0}}, nil, false},
		{api.Cells{V: []int{1, 2, 0}}, []int{1, 2, 3}, false},
		{api.Cells{V: []int{-1}}, nil, false}, // no place, though -1 is ahead of 0
		{api.Cells{V: []int{-1}}, []int{5}, false},
		{api.Cells{V: []int{math.MinInt}}, nil, false},
		{api.Cells{V: []int{1}}, []int{5}, false}, // no place, though 1 is ahead of 0
		{api.Cells{V: []int{1}}, []int{5, 4}, false},
		{api.Cells{V: []int{math.MaxInt}}, []int{5}, false},
		{api.Cells{V: []int{0, 1, 3}}, []int{0, 0, 1}, false},
		{api.Cells{V: []int{0}, Marks: []int{1}}, nil, false}, // no right cells
		{api.Cells{V: []int{0}, Marks: []int{-1}}, nil, false},
		{api.Cells{V: []int{0}, Notes: []api.Note{{At: 1}}}, nil, false},
		{api.Cells{V: []int{0, 1}, Notes: grown}, nil, false},
		{api.Cells{V: []int{0, 0}, Notes: []api.Note{{At: 1, Was: 1}}, Marks: []int{1, 0}}, nil, false},
	} {
		if got := uf.Right(x.u, x.ranks); got != x.want {
			t.Errorf("%d: Right of %v by %v is %v", i, x.u, x.ranks, got)
		}
	}
}

// TestRightAll (P5.1): all cells of up to four numbers, by the document's words.
func TestRightAll(t *testing.T) {
	rights, wrongs := 0, 0
	for _, ranks := range someRanks() {
		for n := range 5 {
			eachRow([]int{-2, -1, 0, 1, 2, 3, 4, 5}, n, func(v []int) {
				want := wantRight(v, ranks)
				if got := uf.Right(api.Cells{V: v}, ranks); got != want {
					t.Fatalf("Right of %v by %v is %v", v, ranks, got)
				}
				if want {
					rights++
				} else {
					wrongs++
				}
			})
		}
	}
	if rights == 0 || wrongs == 0 {
		t.Error(rights, wrongs)
	}
}

// TestAdd (P5.1): chapter 4's Grow by how many there are: a class more, and nothing else.
func TestAdd(t *testing.T) {
	if got := uf.Add(api.Cells{}); !trail.Same(got, api.Cells{V: []int{0}, Notes: []api.Note{{At: -1}}}) {
		t.Errorf("Add to nothing: %v", got)
	}
	from := trail.Mark(uf.Join(many(3), nil, 0, 2))
	want := api.Cells{V: []int{0, 1, 0, 3}, Notes: []api.Note{{At: -1}, {At: -1}, {At: -1}, {At: 2, Was: 2}, {At: -1}}, Marks: []int{4}}
	if got := uf.Add(from); !trail.Same(got, want) || !trail.Same(got, trail.Grow(from, 3)) || !slices.Equal(uf.Class(got, 3), []int{3}) {
		t.Errorf("Add to %v: %v", from, got)
	}
	eachClasses(func(v, ranks []int) {
		u := api.Cells{V: v}
		got := uf.Add(u)
		if !trail.Same(got, trail.Grow(u, len(v))) || !uf.Right(got, ranks) || uf.Find(got, len(v)) != len(v) {
			t.Errorf("Add to %v: %v", v, got)
		}
	})
}

// TestFind (P5.2): of numbers that are their own, one step away, and several.
func TestFind(t *testing.T) {
	u := api.Cells{V: []int{2, 0, 2, 4, 4, 1, 6}}
	for n, want := range []int{2, 2, 2, 4, 4, 2, 6} {
		if got := uf.Find(u, n); got != want {
			t.Errorf("Find %d: %d", n, got)
		}
	}
}

// TestAsks (P5.2): Find, Class and Firsts at all classes of up to four numbers, by the document's words.
func TestAsks(t *testing.T) {
	eachClasses(func(v, ranks []int) {
		u := api.Cells{V: v}
		var firsts []int
		for n := range v {
			if got := uf.Find(u, n); got != wantFind(v, n) {
				t.Fatalf("Find %d of %v: %d", n, v, got)
			}
			var class []int
			for m := range v {
				if wantFind(v, m) == wantFind(v, n) {
					class = append(class, m)
				}
			}
			if got := uf.Class(u, n); !slices.Equal(got, class) {
				t.Fatalf("Class of %d of %v: %v", n, v, got)
			}
			if v[n] == n {
				firsts = append(firsts, n)
			}
		}
		if got := uf.Firsts(u); !slices.Equal(got, firsts) {
			t.Fatalf("Firsts of %v: %v", v, got)
		}
	})
}

// TestJoin (P5.2): the document's example; that which is behind is set, whichever comes first; the same class stays as it is, without a note.
func TestJoin(t *testing.T) {
	three := many(3)
	u := uf.Join(three, nil, 2, 1)
	if want, _ := trail.Set(three, 2, 1); !trail.Same(u, want) || uf.Find(u, 2) != 1 || !trail.Same(uf.Join(three, nil, 1, 2), want) {
		t.Errorf("Three numbers, no ranks; Join 2 and 1: %v", u)
	}
	for _, ab := range [][2]int{{2, 1}, {1, 2}, {1, 1}, {2, 2}, {0, 0}} {
		if got := uf.Join(u, nil, ab[0], ab[1]); !trail.Same(got, u) {
			t.Errorf("Join of %v, which are one: %v", ab, got)
		}
	}
	if got := uf.Join(u, nil, 2, 0); !trail.Same(got, api.Cells{V: []int{0, 0, 1}, Notes: append(deep(u).Notes, api.Note{At: 1, Was: 1})}) {
		t.Errorf("Join of 2, whose first one is 1, and 0: %v", got)
	}
	ranks := []int{3, 2, 1}
	if got := uf.Join(three, ranks, 0, 1); !slices.Equal(got.V, []int{1, 1, 2}) {
		t.Errorf("Join by falling ranks: %v", got)
	}
	if got := uf.Join(three, []int{-1, 0, -2}, 0, 1); !slices.Equal(got.V, []int{0, 0, 2}) {
		t.Errorf("Join by ranks below 0: %v", got)
	}
	if got := uf.Join(three, []int{1}, 0, 2); !slices.Equal(got.V, []int{2, 1, 2}) {
		t.Errorf("Join of a rank, and of none: %v", got)
	}
	if got := uf.Join(three, []int{math.MaxInt, math.MinInt}, 0, 1); !slices.Equal(got.V, []int{1, 1, 2}) {
		t.Errorf("Join by ranks at the ends: %v", got)
	}
}

// TestJoinAll (P5.2, P5.3): all Joins at all classes of up to four numbers: the cells, by the document's words, and who is one with whom.
func TestJoinAll(t *testing.T) {
	eachClasses(func(v, ranks []int) {
		for a := range v {
			for b := range v {
				u := trail.Mark(api.Cells{V: slices.Clone(v), Notes: slices.Repeat([]api.Note{{At: -1}}, len(v))})
				checkJoin(t, u, ranks, a, b)
			}
		}
	})
}

// checkJoin holds one Join against the document's words.
func checkJoin(t *testing.T, u api.Cells, ranks []int, a, b int) {
	t.Helper()
	want := u
	x, y := wantFind(u.V, a), wantFind(u.V, b)
	if wantLess(ranks, x, y) {
		want, _ = trail.Set(u, y, x)
	} else if wantLess(ranks, y, x) {
		want, _ = trail.Set(u, x, y)
	}
	got := uf.Join(u, ranks, a, b)
	if !trail.Same(got, want) || !uf.Right(got, ranks) {
		t.Fatalf("Join of %d and %d of %v by %v: %v", a, b, u, ranks, got)
	}
	for n := range u.V {
		for m := range u.V {
			was := wantFind(u.V, n) == wantFind(u.V, m)
			joined := isEither(wantFind(u.V, n), x, y) && isEither(wantFind(u.V, m), x, y)
			if (uf.Find(got, n) == uf.Find(got, m)) != (was || joined) {
				t.Fatalf("Join of %d and %d of %v by %v: %d and %d", a, b, u, ranks, n, m)
			}
		}
		checkFirst(t, got, ranks, n)
	}
}

// isEither: is n one of the two?
func isEither(n, x, y int) bool { return n == x || n == y }

// checkFirst (P5.3): the first one of n's class is in it, and ahead of all others of it.
func checkFirst(t *testing.T, u api.Cells, ranks []int, n int) {
	t.Helper()
	first, class := uf.Find(u, n), uf.Class(u, n)
	if !slices.Contains(class, first) || !slices.Contains(class, n) {
		t.Fatalf("%v: the class of %d is %v, its first one %d", u, n, class, first)
	}
	for _, m := range class {
		if m != first && !uf.Less(ranks, first, m) {
			t.Fatalf("%v by %v: %d, the first one of %d, isn't ahead of %d", u, ranks, first, n, m)
		}
	}
}

// tried is classes, of each number a label that says with whom it is one, and what was at each mark.
type tried struct {
	u      api.Cells
	labels []int
	was    []tried
}

// do does the thing of that number.
func (x *tried) do(what int, ranks []int, a, b int) {
	switch what {
	case 0:
		x.u, x.labels = uf.Add(x.u), append(slices.Clone(x.labels), len(x.labels))
	case 1:
		was := tried{u: deep(x.u), labels: x.labels}
		x.u, x.was = trail.Mark(x.u), append(slices.Clone(x.was), was)
	case 2:
		if len(x.was) == 0 {
			return
		}
		x.u, _ = trail.Back(x.u)
		x.labels = x.was[len(x.was)-1].labels
		x.was = x.was[:len(x.was)-1]
	default:
		if len(x.labels) == 0 {
			return
		}
		a, b = a%len(x.labels), b%len(x.labels)
		x.u = uf.Join(x.u, ranks, a, b)
		from, to := x.labels[a], x.labels[b]
		x.labels = slices.Clone(x.labels)
		for i, label := range x.labels {
			if label == from {
				x.labels[i] = to
			}
		}
	}
}

// check holds the classes against the labels.
func (x *tried) check(t *testing.T, ranks []int) {
	t.Helper()
	if !uf.Right(x.u, ranks) || len(x.u.V) != len(x.labels) {
		t.Fatalf("%v by %v", x.u, ranks)
	}
	var firsts []int
	for n, label := range x.labels {
		var class []int
		for m, other := range x.labels {
			if other == label {
				class = append(class, m)
			}
		}
		first := slices.MinFunc(class, func(a, b int) int {
			if wantLess(ranks, a, b) {
				return -1
			}
			return 1
		})
		if got := uf.Class(x.u, n); !slices.Equal(got, class) || uf.Find(x.u, n) != first {
			t.Fatalf("%v by %v: the class of %d is %v, its first one %d", x.u, ranks, n, got, uf.Find(x.u, n))
		}
		if n == first {
			firsts = append(firsts, n)
		}
	}
	if got := uf.Firsts(x.u); !slices.Equal(got, firsts) {
		t.Fatalf("%v by %v: Firsts %v", x.u, ranks, got)
	}
}

// TestLong (P5.2, P5.3): long rows of Adds, Joins, marks and Backs by chance: all classes as labels tell them, and taken apart again.
func TestLong(t *testing.T) {
	for seed := range 60 {
		r := rand.New(rand.NewSource(int64(seed)))
		ranks := make([]int, r.Intn(25))
		for i := range ranks {
			ranks[i] = r.Intn(7) - 3
		}
		x := &tried{}
		for range 150 {
			x.do(r.Intn(8), ranks, r.Intn(1000), r.Intn(1000))
			x.check(t, ranks)
		}
		for len(x.was) > 0 {
			want := x.was[len(x.was)-1].u
			x.do(2, ranks, 0, 0)
			x.check(t, ranks)
			if !trail.Same(x.u, want) {
				t.Fatalf("seed %d: Back: %v", seed, x.u)
			}
		}
	}
}

// TestTakeApart (P5.3): what was joined and added behind a mark is apart again, and gone.
func TestTakeApart(t *testing.T) {
	ranks := []int{1, 0, 1, 0}
	was := uf.Join(many(4), ranks, 0, 2)
	u := trail.Mark(was)
	u = uf.Join(uf.Add(u), ranks, 2, 4)
	u = uf.Join(u, ranks, 0, 1)
	if !slices.Equal(uf.Class(u, 2), []int{0, 1, 2, 4}) || uf.Find(u, 2) != 1 {
		t.Fatal(u)
	}
	if u, e := trail.Back(u); e != api.OK || !trail.Same(u, was) || !slices.Equal(uf.Class(u, 2), []int{0, 2}) || !slices.Equal(uf.Firsts(u), []int{0, 1, 3}) {
		t.Error(u, e)
	}
}

// TestNothing (P5.2): no numbers at all.
func TestNothing(t *testing.T) {
	if got := uf.Firsts(api.Cells{}); len(got) != 0 {
		t.Error(got)
	}
	if got := uf.Class(api.Cells{}, 0); len(got) != 0 {
		t.Error(got)
	}
}

// TestLongWay (R1): a way through all of many numbers, either way, is gone in good time.
func TestLongWay(t *testing.T) {
	const n = 300000
	up, down, all := make([]int, n), make([]int, n), make([]int, n)
	ranks := make([]int, n)
	for i := range n {
		up[i], down[i], all[i], ranks[i] = min(i+1, n-1), max(i-1, 0), i, n-i
	}
	for i, x := range []struct {
		v, ranks    []int
		last, first int
	}{{up, ranks, 0, n - 1}, {down, nil, n - 1, 0}} {
		u := api.Cells{V: x.v}
		if !uf.Right(u, x.ranks) || uf.Find(u, x.last) != x.first || !slices.Equal(uf.Firsts(u), []int{x.first}) {
			t.Errorf("%d: Find %d", i, uf.Find(u, x.last))
		}
		for _, of := range []int{0, n / 2, n - 1} {
			if got := uf.Class(u, of); !slices.Equal(got, all) {
				t.Errorf("%d: the class of %d has %d", i, of, len(got))
			}
		}
	}
}

// roomy is those cells with room behind each row, in which something stands.
func roomy(u api.Cells) api.Cells {
	return api.Cells{
		V:     append(slices.Clone(u.V), 91, 92)[:len(u.V)],
		Notes: append(slices.Clone(u.Notes), api.Note{At: 93}, api.Note{At: 94})[:len(u.Notes)],
		Marks: append(slices.Clone(u.Marks), 95, 96)[:len(u.Marks)],
	}
}

// whole is those cells with two more of the room behind each row.
func whole(u api.Cells) api.Cells {
	return api.Cells{V: u.V[:len(u.V)+2], Notes: u.Notes[:len(u.Notes)+2], Marks: u.Marks[:len(u.Marks)+2]}
}

// wipe writes over all of some cells, and over the room behind.
func wipe(u api.Cells) {
	for i := range u.V[:cap(u.V)] {
		u.V[:cap(u.V)][i] = -99
	}
	for i := range u.Notes[:cap(u.Notes)] {
		u.Notes[:cap(u.Notes)][i] = api.Note{At: -99, Was: -99}
	}
	for i := range u.Marks[:cap(u.Marks)] {
		u.Marks[:cap(u.Marks)][i] = -99
	}
}

// calls are all calls that answer cells or a row, each with arguments that change something and, where there are such, that don't.
func calls(ranks []int) []func(u api.Cells) api.Cells {
	return []func(u api.Cells) api.Cells{
		uf.Add,
		func(u api.Cells) api.Cells { return uf.Join(u, ranks, 2, 1) },
		func(u api.Cells) api.Cells { return uf.Join(u, ranks, 0, 2) },
		func(u api.Cells) api.Cells { return uf.Join(u, ranks, -1, 9) },
		func(u api.Cells) api.Cells { return api.Cells{V: uf.Class(u, 2)} },
		func(u api.Cells) api.Cells { return api.Cells{V: uf.Firsts(u)} },
		func(u api.Cells) api.Cells { return api.Cells{V: []int{uf.Find(u, 2)}} },
		func(u api.Cells) api.Cells { return api.Cells{V: make([]int, len(u.V)), Marks: isRight(u, ranks)} },
	}
}

// isRight is what Right says, as a row.
func isRight(u api.Cells, ranks []int) []int {
	if uf.Right(u, ranks) && uf.Less(ranks, 1, 0) {
		return []int{1}
	}
	return nil
}

// TestMemory (R3): what is handed in stays as it is, with the room behind it; what comes out shares nothing with it, nor with what another call answered.
func TestMemory(t *testing.T) {
	from := trail.Mark(uf.Join(many(4), []int{3, 2, 1}, 0, 2))
	wasRanks := []int{3, 2, 1, 90, 91}
	ranks := slices.Clone(wasRanks)
	for i, call := range calls(ranks[:3]) {
		u := roomy(from)
		was := deep(whole(u))
		first := call(u)
		wasFirst := deep(first)
		second := call(u)
		if !trail.Same(whole(u), was) || !trail.Same(first, second) || !slices.Equal(ranks, wasRanks) {
			t.Fatalf("%d: what is handed in is written into, or the answers differ", i)
		}
		wipe(second)
		if !trail.Same(whole(u), was) || !trail.Same(first, wasFirst) {
			t.Fatalf("%d: an answer shares memory", i)
		}
		wipe(u)
		if !trail.Same(first, wasFirst) {
			t.Fatalf("%d: an answer shares memory with what was handed in", i)
		}
	}
}

// TestWrong (R1): of cells that are no classes, and of numbers that aren't there, nothing is promised but that each call ends, and none panics.
func TestWrong(t *testing.T) {
	numbers := []int{math.MinInt, -1, 0, 1, 2, 3, math.MaxInt}
	for _, ranks := range [][]int{nil, {2, 1, 0}, {0, 1, 2, 3}} {
		for many := range 4 {
			eachRow(numbers, many, func(v []int) {
				u := api.Cells{V: v, Notes: []api.Note{{At: 9}}, Marks: []int{-4}}
				was := deep(u)
				uf.Add(u)
				uf.Right(u, ranks)
				uf.Firsts(u)
				for _, a := range numbers {
					uf.Find(u, a)
					uf.Class(u, a)
					for _, b := range numbers {
						uf.Join(u, ranks, a, b)
					}
				}
				if !trail.Same(u, was) {
					t.Fatal("what is handed in is written into")
				}
			})
		}
	}
}

// TestNotThere (R1): a number that isn't there is in no class, and joins none.
func TestNotThere(t *testing.T) {
	u := uf.Join(many(3), nil, 0, 1)
	for _, n := range []int{math.MinInt, -1, 3, math.MaxInt} {
		if got := uf.Class(u, n); len(got) != 0 {
			t.Errorf("Class of %d: %v", n, got)
		}
		for _, m := range []int{n, 0, 1, 2} {
			if got := uf.Join(u, nil, n, m); !trail.Same(got, u) {
				t.Errorf("Join of %d and %d: %v", n, m, got)
			}
			if got := uf.Join(u, nil, m, n); !trail.Same(got, u) {
				t.Errorf("Join of %d and %d: %v", m, n, got)
			}
		}
	}
}
