package solve

import (
	"slices"

	"tammy/api"
	"tammy/cyc"
	"tammy/ifg"
	"tammy/step"
	"tammy/term"
	"tammy/work"
)

// atWork is a system that is being solved; which constraints its queue has seen; and what is done with a constraint and its parts, by what it comes to.
type atWork struct {
	api.System
	seen map[api.Pair]struct{}
	asks map[int]func(p api.Pair, parts []api.Pair)
}

// begin is a copy of a system, at work.
func begin(s api.System) *atWork {
	w := &atWork{System: copyOf(s), seen: seenBy(s.W)}
	w.asks = map[int]func(p api.Pair, parts []api.Pair){
		api.WDone:  w.done,
		api.WParts: w.parts,
		api.WAtom:  w.atom,
		api.WClash: w.clash,
	}
	return w
}

// seenBy is all that a queue has seen.
func seenBy(w api.Queue) map[api.Pair]struct{} {
	out := make(map[api.Pair]struct{}, len(w.Seen.Keys))
	for _, key := range w.Seen.Keys {
		if len(key) == len(api.Pair{}) {
			out[api.Pair(key)] = struct{}{}
		}
	}
	return out
}

// put lets constraints wait, in order. The queue is asked only for what it hasn't seen: it copies all that it has with each answer, and most of what comes of a constraint has come before.
func (w *atWork) put(l ...api.Pair) {
	for _, p := range l {
		if _, was := w.seen[p]; was {
			continue
		}
		w.seen[p] = struct{}{}
		w.W, _ = work.Put(w.W, p)
	}
}

// once takes the next constraint, and tells whether there was one.
func (w *atWork) once() bool {
	rest, p, is := work.Next(w.W)
	if !is {
		return false
	}
	w.W = rest
	w.Steps++
	way := step.Step(w.Sigs, w.A, p[0], p[1])
	w.asks[way.Kind](p, way.Pairs)
	return true
}

func (w *atWork) done(api.Pair, []api.Pair) {}

func (w *atWork) parts(_ api.Pair, parts []api.Pair) { w.put(parts...) }

// clash lays a constraint where it belongs among the clashes, which rise. It isn't there: each comes but once.
func (w *atWork) clash(p api.Pair, _ []api.Pair) {
	at, _ := slices.BinarySearchFunc(w.Clash, p, compare)
	w.Clash = slices.Insert(w.Clash, at, p)
}

// compare is which of two constraints is less: by the first places, then by the second ones.
func compare(p, q api.Pair) int { return slices.Compare(p[:], q[:]) }

// atom tells the graph of a constraint of a variable.
func (w *atWork) atom(p api.Pair, _ []api.Pair) {
	g, come, isNew := ifg.Add(w.A, w.G, p)
	w.G = g
	w.put(come...)
	if isNew && w.Depth != 0 {
		w.seekCircle(p)
	}
}

// seekCircle makes variables one, if a constraint that is new has closed a circle of them.
func (w *atWork) seekCircle(p api.Pair) {
	x, isX := w.variable(p[0])
	y, isY := w.variable(p[1])
	if !isX || !isY {
		return
	}
	way := cyc.Path(w.A, w.G, y, x, w.Depth)
	if len(way) == 0 {
		return
	}
	g, come := cyc.Join(w.A, w.G, way)
	w.G = g
	w.put(come...)
}

// variable is the number of a term's Var, if it is one: so is the one for it, and ways lead from and to the ones for variables.
func (w *atWork) variable(id int) (int, bool) {
	t, is := term.Of(w.A, id)
	return t.Sym, is && t.Kind == api.Var
}
