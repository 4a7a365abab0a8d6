package work_test

import (
	"math"
	"math/rand"
	"slices"
	"sort"
	"testing"

	"tammy/api"
	"tammy/hash"
	"tammy/work"
)

// edges are numbers at which comparing could go wrong.
func edges() []int {
	return []int{math.MinInt, math.MinInt + 1, -5, -1, 0, 1, 2, 7, math.MaxInt - 1, math.MaxInt}
}

// isLess is a second reading of the document's words: which of two stands first in a row that rises.
func isLess(p, q api.Pair) bool {
	for i := range p {
		if p[i] != q[i] {
			return q[i] > p[i]
		}
	}
	return false
}

// seen is the table of those pairs, laid one after the other.
func seen(l ...api.Pair) api.Keyed {
	var keys [][]int
	for _, p := range l {
		keys = append(keys, []int{p[0], p[1]})
	}
	return api.Keyed{Keys: keys, Slots: hash.Lay(keys)}
}

// queue is one where these wait, in that order, and nothing else was seen.
func queue(l ...api.Pair) api.Queue { return api.Queue{L: l, Seen: seen(l...)} }

// secondUp is a second reading of how a pair is laid behind: its way up, as long as it is less.
func secondUp(l []api.Pair, p api.Pair) []api.Pair {
	out := append(slices.Clone(l), p)
	for i := len(l); i > 0 && isLess(out[i], out[(i-1)/2]); i = (i - 1) / 2 {
		out[i], out[(i-1)/2] = out[(i-1)/2], out[i]
	}
	return out
}

// secondDown is a second reading of what is left without the first pair.
func secondDown(l []api.Pair) []api.Pair {
	out := slices.Clone(l[:len(l)-1])
	if len(out) == 0 {
		return out
	}
	out[0] = l[len(l)-1]
	i := 0
	for {
		least := i
		for _, below := range []int{2*i + 1, 2*i + 2} {
			if below < len(out) && isLess(out[below], out[least]) {
				least = below
			}
		}
		if least == i {
			return out
		}
		out[i], out[least] = out[least], out[i]
		i = least
	}
}

// secondRight is a second reading of what is right.
func secondRight(w api.Queue) bool {
	for i, p := range w.L {
		if i > 0 && isLess(p, w.L[(i-1)/2]) || slices.Contains(w.L[:i], p) {
			return false
		}
		if !slices.ContainsFunc(w.Seen.Keys, func(key []int) bool { return slices.Equal(key, p[:]) }) {
			return false
		}
	}
	for _, key := range w.Seen.Keys {
		if len(key) != 2 {
			return false
		}
	}
	return hash.Right(w.Seen)
}

// equal: are two the same, element by element?
func equal(a, b api.Queue) bool {
	return slices.Equal(a.L, b.L) && slices.EqualFunc(a.Seen.Keys, b.Seen.Keys, slices.Equal[[]int]) && slices.Equal(a.Seen.Slots, b.Seen.Slots)
}

// clone is a copy that shares nothing.
func clone(w api.Queue) api.Queue {
	out := api.Queue{L: slices.Clone(w.L), Seen: api.Keyed{Slots: slices.Clone(w.Seen.Slots)}}
	for _, key := range w.Seen.Keys {
		out.Seen.Keys = append(out.Seen.Keys, slices.Clone(key))
	}
	return out
}

// orders are all orders of a row.
func orders(l []api.Pair) [][]api.Pair {
	if len(l) == 0 {
		return [][]api.Pair{nil}
	}
	var out [][]api.Pair
	for i := range l {
		rest := slices.Concat(l[:i], l[i+1:])
		for _, o := range orders(rest) {
			out = append(out, append([]api.Pair{l[i]}, o...))
		}
	}
	return out
}

// rows are all rows of up to so many of these, each as often as it may.
func rows(of []api.Pair, many int) [][]api.Pair {
	out := [][]api.Pair{nil}
	for from := 0; many > 0; many-- {
		to := len(out)
		for _, l := range out[from:to] {
			for _, p := range of {
				out = append(out, append(slices.Clone(l), p))
			}
		}
		from = to
	}
	return out
}

// model is what was put and not yet taken, rising, and what was ever put, in order.
type model struct{ waits, was []api.Pair }

// put lays a pair in the model, and tells whether it is new.
func (m *model) put(p api.Pair) bool {
	if slices.Contains(m.was, p) {
		return false
	}
	m.was = append(m.was, p)
	m.waits = append(m.waits, p)
	sort.Slice(m.waits, func(i, j int) bool { return isLess(m.waits[i], m.waits[j]) })
	return true
}

// next takes the least from the model.
func (m *model) next() (api.Pair, bool) {
	if len(m.waits) == 0 {
		return api.Pair{}, false
	}
	p := m.waits[0]
	m.waits = m.waits[1:]
	return p, true
}

// wantPut holds a Put against the second readings, and tells what came out.
func wantPut(t *testing.T, w api.Queue, p api.Pair) api.Queue {
	t.Helper()
	want := clone(w)
	isNew := !slices.ContainsFunc(w.Seen.Keys, func(key []int) bool { return slices.Equal(key, p[:]) })
	if isNew {
		want.Seen, _, _ = hash.Put(w.Seen, []int{p[0], p[1]})
		want.L = secondUp(w.L, p)
	}
	got, is := work.Put(w, p)
	if is != isNew || !equal(got, want) {
		t.Fatalf("Put(%v, %v): %v, %v, not %v, %v", w, p, got, is, want, isNew)
	}
	return got
}

// wantNext holds a Next against the second readings, and tells what came out.
func wantNext(t *testing.T, w api.Queue) api.Queue {
	t.Helper()
	want, first := clone(w), api.Pair{}
	if len(w.L) > 0 {
		want.L, first = secondDown(w.L), w.L[0]
	}
	got, p, is := work.Next(w)
	if is != (len(w.L) > 0) || p != first || !equal(got, want) {
		t.Fatalf("Next(%v): %v, %v, %v, not %v, %v", w, got, p, is, want, first)
	}
	return got
}

// some is a pair by chance, of few, so that pairs come again.
func some(r *rand.Rand, many int) api.Pair { return api.Pair{r.Intn(many) - 3, r.Intn(many) - 3} }
