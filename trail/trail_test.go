package trail_test

import (
	"math"
	"math/rand"
	"slices"
	"testing"

	"tammy/api"
	"tammy/trail"
)

// deep is a copy that shares nothing.
func deep(c api.Cells) api.Cells {
	return api.Cells{V: slices.Clone(c.V), Notes: slices.Clone(c.Notes), Marks: slices.Clone(c.Marks)}
}

// notes is a row of notes, told by At and Was in turn.
func notes(numbers ...int) []api.Note {
	var out []api.Note
	for pair := range slices.Chunk(numbers, 2) {
		out = append(out, api.Note{At: pair[0], Was: pair[1]})
	}
	return out
}

// equal holds two against each other without the package's own Same.
func equal(a, b api.Cells) bool {
	return slices.Equal(a.V, b.V) && slices.Equal(a.Notes, b.Notes) && slices.Equal(a.Marks, b.Marks)
}

// some is right cells that have all: notes ahead of the first mark, between marks, two marks at one place, and notes behind the last.
func some() api.Cells {
	return api.Cells{
		V:     []int{5, -6, 7},
		Notes: []api.Note{{At: -1}, {At: 0, Was: 1}, {At: -1}, {At: 1, Was: 2}, {At: 0, Was: 3}, {At: -1}, {At: 2, Was: 4}},
		Marks: []int{0, 2, 4, 4},
	}
}

// wantRight takes all notes back, by the document's words, values and all.
func wantRight(c api.Cells) bool {
	v := slices.Clone(c.V)
	for _, n := range slices.Backward(c.Notes) {
		if n.At == -1 && len(v) > 0 {
			v = v[:len(v)-1]
		} else if n.At >= 0 && n.At < len(v) {
			v[n.At] = n.Was
		} else {
			return false
		}
	}
	for i, m := range c.Marks {
		if m < 0 || m > len(c.Notes) || i > 0 && m < c.Marks[i-1] {
			return false
		}
	}
	return true
}

// TestRight (P4.1): cells that are right, and each way in which some aren't.
func TestRight(t *testing.T) {
	for i, x := range []struct {
		c    api.Cells
		want bool
	}{
		{api.Cells{}, true},
		{api.Cells{V: []int{}, Notes: []api.Note{}, Marks: []int{}}, true},
		{api.Cells{V: []int{5}}, true},
		{api.Cells{V: []int{5}, Notes: notes(0, 4)}, true},
		{api.Cells{V: []int{5}, Notes: notes(-1, 0)}, true},
		{api.Cells{V: []int{5}, Notes: notes(-1, 9)}, true}, // Was of such a note says nothing
		{api.Cells{V: []int{5}, Notes: notes(-1, 0, 0, 4)}, true},
		{api.Cells{V: []int{5, 6}, Notes: notes(0, 4, -1, 0, 1, 4)}, true},
		{api.Cells{V: []int{5, 6}, Notes: notes(-1, 0, -1, 0)}, true},
		{api.Cells{Marks: []int{0}}, true},
		{api.Cells{Marks: []int{0, 0, 0}}, true},
		{api.Cells{V: []int{5}, Notes: notes(0, 4, 0, 3), Marks: []int{0, 0, 1, 2, 2}}, true},
		{api.Cells{V: []int{5}, Notes: notes(0, 4, 0, 3), Marks: []int{2}}, true},
		{some(), true},
		{api.Cells{Notes: notes(-1, 0)}, false},
		{api.Cells{Notes: notes(0, 0)}, false},
		{api.Cells{V: []int{5}, Notes: notes(1, 0)}, false},
		{api.Cells{V: []int{5}, Notes: notes(-2, 0)}, false},
		{api.Cells{V: []int{5}, Notes: notes(math.MinInt, 0)}, false},
		{api.Cells{V: []int{5}, Notes: notes(math.MaxInt, 0)}, false},
		{api.Cells{V: []int{5}, Notes: notes(0, 4, -1, 0)}, false},
		{api.Cells{V: []int{5}, Notes: notes(-1, 0, -1, 0)}, false},
		{api.Cells{V: []int{5, 6}, Notes: notes(1, 4, -1, 0)}, false},
		{api.Cells{V: []int{5, 6}, Notes: notes(-1, 0, -1, 0, -1, 0, 0, 1)}, false},
		{api.Cells{V: []int{5}, Notes: notes(1, 0, 0, 4), Marks: []int{1}}, false}, // ahead of the marks, too
		{api.Cells{Marks: []int{1}}, false},
		{api.Cells{Marks: []int{-1}}, false},
		{api.Cells{Marks: []int{math.MinInt}}, false},
		{api.Cells{Marks: []int{math.MaxInt}}, false},
		{api.Cells{Marks: []int{-1, 0}}, false},
		{api.Cells{V: []int{5}, Notes: notes(0, 4), Marks: []int{2}}, false},
		{api.Cells{V: []int{5}, Notes: notes(0, 4), Marks: []int{1, 0}}, false},
		{api.Cells{V: []int{5}, Notes: notes(0, 4, 0, 4), Marks: []int{0, 2, 1}}, false},
		{api.Cells{V: []int{5}, Notes: notes(0, 4, 0, 4), Marks: []int{0, 3, 3}}, false},
	} {
		if got := trail.Right(x.c); got != x.want || wantRight(x.c) != x.want {
			t.Errorf("%d: Right of %v is %v", i, x.c, got)
		}
	}
}

// TestRightAll (P4.1): all rows of up to four notes, and of up to three marks, at up to three cells.
func TestRightAll(t *testing.T) {
	ats, marks := []int{-2, -1, 0, 1, 2, 3}, []int{-1, 0, 1, 2, 3}
	rights := 0
	for many := range 4 {
		eachRow(ats, 4, func(row []int) {
			c := api.Cells{V: make([]int, many)}
			for i, at := range row {
				c.Notes = append(c.Notes, api.Note{At: at, Was: i})
			}
			want := wantRight(c)
			if got := trail.Right(c); got != want {
				t.Fatalf("Right of %v is %v", c, got)
			}
			if want {
				rights++
			}
		})
		eachRow(marks, 3, func(row []int) {
			c := api.Cells{V: make([]int, many), Notes: slices.Repeat([]api.Note{{At: -1}}, many), Marks: row}
			if got, want := trail.Right(c), wantRight(c); got != want {
				t.Fatalf("Right of %v is %v", c, got)
			}
		})
	}
	if rights == 0 {
		t.Error("no cells are right")
	}
}

// eachRow tells all rows of those numbers, of up to that length.
func eachRow(of []int, most int, do func(row []int)) {
	rows := [][]int{nil}
	for range most + 1 {
		var longer [][]int
		for _, row := range rows {
			do(row)
			for _, n := range of {
				longer = append(longer, append(slices.Clone(row), n))
			}
		}
		rows = longer
	}
}

// TestSame (P4.1, R3): all of it, right or not.
func TestSame(t *testing.T) {
	base := some()
	for i, change := range []func(c *api.Cells){
		func(c *api.Cells) { c.V[0]++ },
		func(c *api.Cells) { c.V[2]++ },
		func(c *api.Cells) { c.V = c.V[:2] },
		func(c *api.Cells) { c.V = append(c.V, 0) },
		func(c *api.Cells) { c.V = nil },
		func(c *api.Cells) { c.Notes[1].Was++ },
		func(c *api.Cells) { c.Notes[0].Was++ },
		func(c *api.Cells) { c.Notes[6].At++ },
		func(c *api.Cells) { c.Notes[0], c.Notes[1] = c.Notes[1], c.Notes[0] },
		func(c *api.Cells) { c.Notes = c.Notes[:6] },
		func(c *api.Cells) { c.Notes = append(c.Notes, api.Note{}) },
		func(c *api.Cells) { c.Marks[0]++ },
		func(c *api.Cells) { c.Marks[3]++ },
		func(c *api.Cells) { c.Marks = c.Marks[:3] },
		func(c *api.Cells) { c.Marks = append(c.Marks, 7) },
	} {
		other := some()
		if !trail.Same(base, other) {
			t.Fatal("the same aren't the same")
		}
		change(&other)
		if trail.Same(base, other) || trail.Same(other, base) {
			t.Errorf("%d: %v is the same as %v", i, other, base)
		}
	}
	empty := api.Cells{V: []int{}, Notes: []api.Note{}, Marks: []int{}}
	if !trail.Same(api.Cells{}, empty) || !trail.Same(empty, api.Cells{}) || trail.Same(api.Cells{}, base) {
		t.Error("nothing")
	}
	wrong := api.Cells{V: []int{1}, Notes: []api.Note{{At: 9}}, Marks: []int{-4}}
	if !trail.Same(wrong, deep(wrong)) || trail.Same(wrong, api.Cells{V: []int{1}, Notes: []api.Note{{At: 9}}, Marks: []int{-5}}) {
		t.Error("cells that aren't right")
	}
}

// TestSet (P4.1): first, last, and the same value; a note each time, behind the others.
func TestSet(t *testing.T) {
	for _, at := range []int{0, 1, 2} {
		for _, v := range []int{0, 5, -6, 7, math.MinInt, math.MaxInt} {
			want := some()
			want.Notes = append(want.Notes, api.Note{At: at, Was: want.V[at]})
			want.V[at] = v
			got, e := trail.Set(some(), at, v)
			if e != api.OK || !equal(got, want) || !trail.Right(got) {
				t.Errorf("Set %d to %d: %v, %d", at, v, got, e)
			}
		}
	}
	c, e := trail.Set(api.Cells{V: []int{5}}, 0, 7)
	if e != api.OK || !equal(c, api.Cells{V: []int{7}, Notes: []api.Note{{At: 0, Was: 5}}}) {
		t.Error(c, e)
	}
	c, e = trail.Set(c, 0, 7)
	if e != api.OK || !equal(c, api.Cells{V: []int{7}, Notes: []api.Note{{At: 0, Was: 5}, {At: 0, Was: 7}}}) {
		t.Error(c, e)
	}
}

// TestSetErrors (P4.1, R2): ErrArg, and the cells as they were.
func TestSetErrors(t *testing.T) {
	for _, c := range []api.Cells{{}, {Marks: []int{0}}, {V: []int{5}}, some()} {
		for _, at := range []int{math.MinInt, -2, -1, len(c.V), len(c.V) + 1, math.MaxInt} {
			if got, e := trail.Set(c, at, 3); e != api.ErrArg || !equal(got, c) {
				t.Errorf("Set %d of %v: %v, %d", at, c, got, e)
			}
		}
	}
}

// TestGrow (P4.1): a cell more, and its note.
func TestGrow(t *testing.T) {
	for _, v := range []int{0, 1, -1, math.MinInt, math.MaxInt} {
		if got := trail.Grow(api.Cells{}, v); !equal(got, api.Cells{V: []int{v}, Notes: []api.Note{{At: -1, Was: 0}}}) {
			t.Errorf("Grow of nothing by %d: %v", v, got)
		}
		want := some()
		want.V, want.Notes = append(want.V, v), append(want.Notes, api.Note{At: -1, Was: 0})
		if got := trail.Grow(some(), v); !equal(got, want) || !trail.Right(got) {
			t.Errorf("Grow by %d: %v", v, got)
		}
	}
}

// TestMark (P4.2): how many notes there are, behind the marks.
func TestMark(t *testing.T) {
	if got := trail.Mark(api.Cells{}); !equal(got, api.Cells{Marks: []int{0}}) {
		t.Errorf("Mark of nothing: %v", got)
	}
	want := some()
	want.Marks = append(want.Marks, 7)
	got := trail.Mark(some())
	if !equal(got, want) || !trail.Right(got) {
		t.Errorf("Mark: %v", got)
	}
	want.Marks = append(want.Marks, 7)
	if got = trail.Mark(got); !equal(got, want) {
		t.Errorf("Mark twice: %v", got)
	}
}

// TestBack (P4.2): the document's example, notes taken back in order, mark by mark, then none.
func TestBack(t *testing.T) {
	was := api.Cells{V: []int{5}}
	c, _ := trail.Set(trail.Mark(was), 0, 7)
	if got, e := trail.Back(c); e != api.OK || !equal(got, was) {
		t.Errorf("Cells 5; Mark, Set 0 to 7, Back: %v, %d", got, e)
	}
	c, first := some(), some().Notes
	for i, want := range []api.Cells{
		{V: []int{3, -6}, Notes: first[:4], Marks: []int{0, 2, 4}},
		{V: []int{3, -6}, Notes: first[:4], Marks: []int{0, 2}},
		{V: []int{3}, Notes: first[:2], Marks: []int{0}},
		{},
	} {
		got, e := trail.Back(c)
		if e != api.OK || !equal(got, want) || !trail.Right(got) {
			t.Fatalf("%d: Back of %v: %v, %d", i, c, got, e)
		}
		c = got
	}
	if got, e := trail.Back(c); e != api.ErrEmpty || !equal(got, api.Cells{}) {
		t.Errorf("Back without a mark: %v, %d", got, e)
	}
}

// TestBackOrder (P4.2): a cell that was set twice is what it was first; one that came to be and was set is gone.
func TestBackOrder(t *testing.T) {
	was := trail.Mark(api.Cells{V: []int{1, 2}})
	c, _ := trail.Set(was, 1, 3)
	c, _ = trail.Set(c, 1, 4)
	c = trail.Grow(c, 8)
	c, _ = trail.Set(c, 2, 9)
	c, _ = trail.Set(c, 0, 6)
	if !equal(c, api.Cells{V: []int{6, 4, 9}, Notes: notes(1, 2, 1, 3, -1, 0, 2, 8, 0, 1), Marks: []int{0}}) {
		t.Fatal(c)
	}
	if got, e := trail.Back(c); e != api.OK || !equal(got, api.Cells{V: []int{1, 2}}) {
		t.Error(got, e)
	}
}

// TestKeep (P4.2): only the last mark is gone; without one, ErrEmpty.
func TestKeep(t *testing.T) {
	c := some()
	for n := 3; n >= 0; n-- {
		want := some()
		want.Marks = want.Marks[:n]
		got, e := trail.Keep(c)
		if e != api.OK || !equal(got, want) || !trail.Right(got) {
			t.Fatalf("Keep of %v: %v, %d", c, got, e)
		}
		c = got
	}
	for _, c := range []api.Cells{c, {}, {V: []int{5}}, {V: []int{5}, Marks: []int{}}} {
		if got, e := trail.Keep(c); e != api.ErrEmpty || !equal(got, c) {
			t.Errorf("Keep of %v: %v, %d", c, got, e)
		}
		if got, e := trail.Back(c); e != api.ErrEmpty || !equal(got, c) {
			t.Errorf("Back of %v: %v, %d", c, got, e)
		}
	}
}

// TestKeepThenBack (P4.3): what a kept mark had behind it is taken back by the mark ahead of it.
func TestKeepThenBack(t *testing.T) {
	was := some()
	c, _ := trail.Set(trail.Mark(was), 0, 70)
	c, _ = trail.Set(trail.Mark(c), 1, 71)
	c, e := trail.Keep(trail.Grow(c, 72))
	if e != api.OK || !slices.Equal(c.V, []int{70, 71, 7, 72}) {
		t.Fatal(c, e)
	}
	if c, e = trail.Back(c); e != api.OK || !equal(c, was) {
		t.Error(c, e)
	}
}

// tried is cells, and what was at each of their marks that were laid here: of kept ones nothing is asked any more.
type tried struct {
	c     api.Cells
	marks []api.Cells
}

// do does the thing of that number, and says whether it went as the document says.
func (x *tried) do(what, at, v int) bool {
	var e api.Errno
	was, open := deep(x.c), len(x.marks) > 0
	isThere := at >= 0 && at < len(was.V)
	switch what {
	case 0:
		x.c, e = trail.Set(x.c, at, v)
		return (e == api.OK) == isThere && (isThere || e == api.ErrArg && equal(x.c, was))
	case 1:
		x.c = trail.Grow(x.c, v)
	case 2:
		x.c, x.marks = trail.Mark(x.c), append(slices.Clone(x.marks), was)
	case 3:
		if !open {
			return true
		}
		x.c, e = trail.Back(x.c)
		last := len(x.marks) - 1
		want := x.marks[last]
		x.marks = x.marks[:last]
		return e == api.OK && equal(x.c, want)
	case 4:
		if !open {
			return true
		}
		x.c, e = trail.Keep(x.c)
		x.marks = x.marks[:len(x.marks)-1]
		was.Marks = was.Marks[:len(was.Marks)-1]
		return e == api.OK && equal(x.c, was)
	}
	return true
}

// TestAllShort (P4.3): all rows of up to six things, from nothing and from cells that have all: right each time, and each Back as if nothing had been.
func TestAllShort(t *testing.T) {
	for _, from := range []api.Cells{{}, some()} {
		eachRow([]int{0, 1, 2, 3, 4}, 6, func(row []int) {
			x := tried{c: deep(from)}
			for i, what := range row {
				if !x.do(what, i%3, 10+i) || !trail.Right(x.c) || !wantRight(x.c) {
					t.Fatalf("%v, the %d. of it: %v", row, i, x.c)
				}
			}
		})
	}
}

// TestLong (P4.3): long rows of things by chance, then all marks back.
func TestLong(t *testing.T) {
	for seed := range 60 {
		r := rand.New(rand.NewSource(int64(seed)))
		x := tried{c: trail.Mark(some())}
		x.marks = []api.Cells{some()}
		for range 300 {
			what := r.Intn(5)
			if what >= 3 && len(x.marks) == 1 {
				continue
			}
			if !x.do(what, r.Intn(len(x.c.V)+2)-1, r.Int()-r.Int()) || !trail.Right(x.c) {
				t.Fatalf("seed %d: %d: %v", seed, what, x.c)
			}
		}
		for len(x.marks) > 0 {
			if !x.do(3, 0, 0) || !trail.Right(x.c) {
				t.Fatalf("seed %d: Back: %v", seed, x.c)
			}
		}
		if !equal(x.c, some()) {
			t.Fatalf("seed %d: %v", seed, x.c)
		}
	}
}

// calls are all calls that answer cells, each with arguments that go and, where there are such, that don't.
func calls() []func(c api.Cells) api.Cells {
	return []func(c api.Cells) api.Cells{
		func(c api.Cells) api.Cells { out, _ := trail.Set(c, 1, 40); return out },
		func(c api.Cells) api.Cells { out, _ := trail.Set(c, -1, 40); return out },
		func(c api.Cells) api.Cells { return trail.Grow(c, 40) },
		trail.Mark,
		func(c api.Cells) api.Cells { out, _ := trail.Back(c); return out },
		func(c api.Cells) api.Cells { out, _ := trail.Keep(c); return out },
	}
}

// roomy is those cells with room behind each row, in which something stands.
func roomy(c api.Cells) api.Cells {
	return api.Cells{
		V:     append(slices.Clone(c.V), 91, 92)[:len(c.V)],
		Notes: append(slices.Clone(c.Notes), api.Note{At: 93}, api.Note{At: 94})[:len(c.Notes)],
		Marks: append(slices.Clone(c.Marks), 95, 96)[:len(c.Marks)],
	}
}

// whole is those cells with two more of the room behind each row.
func whole(c api.Cells) api.Cells {
	return api.Cells{V: c.V[:len(c.V)+2], Notes: c.Notes[:len(c.Notes)+2], Marks: c.Marks[:len(c.Marks)+2]}
}

// wipe writes over all of some cells, and over the room behind.
func wipe(c api.Cells) {
	for i := range c.V[:cap(c.V)] {
		c.V[:cap(c.V)][i] = -99
	}
	for i := range c.Notes[:cap(c.Notes)] {
		c.Notes[:cap(c.Notes)][i] = api.Note{At: -99, Was: -99}
	}
	for i := range c.Marks[:cap(c.Marks)] {
		c.Marks[:cap(c.Marks)][i] = -99
	}
}

// TestMemory (R3): what is handed in stays as it is, with the room behind it; what comes out shares nothing with it, nor with what another call answered.
func TestMemory(t *testing.T) {
	unmarked := some()
	unmarked.Marks = nil
	for _, from := range []api.Cells{some(), unmarked} {
		for i, call := range calls() {
			c := roomy(from)
			was := deep(whole(c))
			first := call(c)
			wasFirst := deep(first)
			second := call(c)
			if !equal(whole(c), was) || !equal(first, second) {
				t.Fatalf("%d: what is handed in is written into, or the answers differ", i)
			}
			wipe(second)
			if !equal(whole(c), was) || !equal(first, wasFirst) {
				t.Fatalf("%d: an answer shares memory", i)
			}
			wipe(c)
			if !equal(first, wasFirst) {
				t.Fatalf("%d: an answer shares memory with what was handed in", i)
			}
		}
	}
}

// TestWrongCells (R1): of cells that aren't right nothing is promised but that each call ends, and none panics.
func TestWrongCells(t *testing.T) {
	numbers := []int{math.MinInt, -2, -1, 0, 1, 2, math.MaxInt}
	for many := range 3 {
		for _, at := range numbers {
			for _, mark := range numbers {
				for notes := range 4 {
					c := api.Cells{V: make([]int, many), Notes: slices.Repeat([]api.Note{{At: at, Was: 8}}, notes), Marks: []int{2, mark}}
					was := deep(c)
					for _, call := range calls() {
						call(c)
					}
					if got, e := trail.Back(c); e != api.OK && !equal(got, c) {
						t.Errorf("Back of %v: %v, %d", c, got, e)
					}
					if !equal(c, was) {
						t.Fatal("what is handed in is written into")
					}
				}
			}
		}
	}
}
