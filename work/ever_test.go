package work_test

import (
	"math"
	"math/rand"
	"slices"
	"testing"

	"tammy/api"
	"tammy/work"
)

// TestForEver (P11.4): whatever is put and taken, what comes out is right, what comes is the least that waits, and each pair comes once.
func TestForEver(t *testing.T) {
	r := rand.New(rand.NewSource(11))
	for round := range 200 {
		w, m, came := work.New(), &model{}, map[api.Pair]int{}
		many := 3 + r.Intn(20)
		for range 150 {
			if r.Intn(5) < 2 {
				want, isThere := m.next()
				v, p, is := work.Next(w)
				if p != want || is != isThere {
					t.Fatalf("%d: %v, %v comes, not %v, %v", round, p, is, want, isThere)
				}
				if is {
					came[p]++
				}
				wantNext(t, w)
				w = v
			} else {
				p := some(r, many)
				w = wantPut(t, w, p)
				m.put(p)
			}
			if !work.Right(w) || !secondRight(w) || len(w.L) != len(m.waits) || !equal(api.Queue{Seen: w.Seen}, api.Queue{Seen: seen(m.was...)}) {
				t.Fatalf("%d: %v, where %v waits", round, w, m.waits)
			}
		}
		for p, n := range came {
			if n != 1 || slices.Contains(w.L, p) {
				t.Fatalf("%v comes %d times, or waits again", p, n)
			}
		}
	}
}

// TestEdges (P11.2, P11.3): pairs of numbers at their edges.
func TestEdges(t *testing.T) {
	r := rand.New(rand.NewSource(12))
	var all []api.Pair
	for _, a := range edges() {
		for _, b := range edges() {
			all = append(all, api.Pair{a, b})
		}
	}
	for range 20 {
		order := slices.Clone(all)
		r.Shuffle(len(order), func(i, j int) { order[i], order[j] = order[j], order[i] })
		w := work.New()
		for _, p := range order {
			w = wantPut(t, w, p)
		}
		for _, want := range all {
			if w.L[0] != want {
				t.Fatalf("%v comes, not %v", w.L[0], want)
			}
			w = wantNext(t, w)
		}
	}
}

// TestMany (P11.4, R1): many pairs.
func TestMany(t *testing.T) {
	w, n := work.New(), 3000
	for i := range n {
		w, _ = work.Put(w, api.Pair{i * 7919 % n, i % 3})
		if i%3 == 2 {
			w, _, _ = work.Next(w)
		}
	}
	if !work.Right(w) || len(w.L) != n-n/3 || len(w.Seen.Keys) != n {
		t.Fatal(len(w.L), len(w.Seen.Keys))
	}
	last := api.Pair{math.MinInt, 0}
	for range n - n/3 {
		v, p, is := work.Next(w)
		if !is || !isLess(last, p) {
			t.Fatalf("%v comes behind %v", p, last)
		}
		w, last = v, p
	}
	if v, p, is := work.Next(w); is || p != (api.Pair{}) || !equal(v, w) {
		t.Errorf("%v, %v", p, is)
	}
}

// spare is a queue whose lists have room behind them, and what tells whether that or the queue is written into.
func spare(l []api.Pair, more ...api.Pair) (api.Queue, func() bool) {
	w := api.Queue{L: l, Seen: seen(append(slices.Clone(l), more...)...)}
	was := clone(w)
	pairs, slots, keys := append(slices.Clone(l), api.Pair{91, 92}), append(slices.Clone(w.Seen.Slots), 95), [][]int(nil)
	for _, key := range w.Seen.Keys {
		keys = append(keys, append(slices.Clone(key), 93)[:2])
	}
	keys = append(keys, []int{94, 94})
	w = api.Queue{L: pairs[:len(l)], Seen: api.Keyed{Keys: keys[:len(keys)-1], Slots: slots[:len(slots)-1]}}
	return w, func() bool {
		for _, key := range w.Seen.Keys {
			if key[:3][2] != 93 {
				return false
			}
		}
		return equal(w, was) && pairs[len(l)] == api.Pair{91, 92} && keys[len(keys)-1][0] == 94 && slots[len(slots)-1] == 95
	}
}

// wipe writes over all of a queue, and behind it.
func wipe(w api.Queue) {
	for i, key := range w.Seen.Keys {
		_ = append(key, -8)
		for j := range key {
			key[j] = -9
		}
		w.Seen.Keys[i] = nil
	}
	for i := range w.L {
		w.L[i] = api.Pair{-9, -9}
	}
	for i := range w.Seen.Slots {
		w.Seen.Slots[i] = -9
	}
	_, _, _ = append(w.L, api.Pair{-8, -8}), append(w.Seen.Keys, nil), append(w.Seen.Slots, -8)
}

// TestMemory (R3): what is handed in stays as it is, with the room behind it; what comes out shares nothing with it, nor with another answer, nor two of its keys with one another.
func TestMemory(t *testing.T) {
	rise := []api.Pair{{1, 0}, {2, 0}, {3, 0}, {4, 0}, {5, 0}, {6, 0}, {7, 0}, {8, 0}}
	for many := range len(rise) + 1 {
		for _, p := range []api.Pair{{0, 0}, {1, 0}, {4, 0}, {9, 0}, {20, 20}} { // less than all, seen, not yet, behind all, seen and gone
			w, asItWas := spare(rise[:many], api.Pair{20, 20})
			calls := []func() api.Queue{
				func() api.Queue { v, _ := work.Put(w, p); return v },
				func() api.Queue { v, _, _ := work.Next(w); return v },
				func() api.Queue { work.Right(w); work.Same(w, w); return work.New() },
			}
			for i, call := range calls {
				one, two := call(), call()
				was := clone(one)
				for j, key := range one.Seen.Keys {
					_ = append(one.Seen.Keys[j], 97)
					if !slices.Equal(key, was.Seen.Keys[j]) || !equal(one, was) {
						t.Fatalf("call %d, of %v: two keys share memory", i, w)
					}
				}
				wipe(two)
				if !equal(one, was) || !asItWas() {
					t.Fatalf("call %d, of %v: an answer shares memory, or a call writes into what it is given", i, w)
				}
			}
		}
	}
}

// TestLater (R3): an answer isn't changed by what is put into it later, nor one of two ways on by the other.
func TestLater(t *testing.T) {
	w := work.New()
	var all, copies []api.Queue
	for i := range 40 {
		v, _ := work.Put(w, api.Pair{100 - i, i})
		x, _, _ := work.Next(v)
		y, _ := work.Put(x, api.Pair{i, i})
		z, _ := work.Put(x, api.Pair{-i, i})
		for _, q := range []api.Queue{v, x, y, z} {
			all, copies = append(all, q), append(copies, clone(q))
		}
		if w = v; i%3 == 0 {
			w = y
		}
	}
	for i := range all {
		if !equal(all[i], copies[i]) {
			t.Errorf("%d: %v is %v", i, copies[i], all[i])
		}
	}
}

// TestWrongQueues (R1): of queues that aren't right nothing is promised but that each call ends, and none panics.
func TestWrongQueues(t *testing.T) {
	r := rand.New(rand.NewSource(13))
	values := []int{-1, 0, 1, 2, 3, 7, 100, math.MinInt, math.MaxInt}
	for range 3000 {
		var w api.Queue
		for range r.Intn(12) {
			w.L = append(w.L, some(r, 5))
		}
		for range r.Intn(12) {
			key := make([]int, r.Intn(4))
			for i := range key {
				key[i] = r.Intn(5) - 3
			}
			w.Seen.Keys = append(w.Seen.Keys, key)
		}
		for range r.Intn(20) {
			w.Seen.Slots = append(w.Seen.Slots, values[r.Intn(len(values))])
		}
		if work.Right(w) != secondRight(w) {
			t.Fatalf("Right(%v) is %v", w, work.Right(w))
		}
		work.Put(w, some(r, 5))
		work.Next(w)
		if !work.Same(w, clone(w)) {
			t.Fatalf("%v isn't the same as its copy", w)
		}
	}
	// The zero value is no right queue, but what is put into it is.
	if w, isNew := work.Put(api.Queue{}, api.Pair{2, 1}); !isNew || !equal(w, queue(api.Pair{2, 1})) {
		t.Errorf("%v, %v", w, isNew)
	}
}
