package step

import (
	"slices"

	"tammy/api"
)

// pairs are constraints, each once.
type pairs map[api.Pair]struct{}

// add lays a constraint among them, and tells whether it is new.
func (s pairs) add(p api.Pair) bool {
	_, was := s[p]
	s[p] = struct{}{}
	return !was
}

// All is all atoms and clashes.
func All(l []api.Sig, a api.Keyed, x, y int) ([]api.Pair, []api.Pair) {
	var atoms, clashes []api.Pair
	// Terms share parts: without what was come to already, one constraint would be gone through as often as there are ways to it.
	come, left := pairs{{x, y}: {}}, pairs{{x, y}: {}}
	for len(left) > 0 {
		next := pairs{}
		for p := range left {
			w := Step(l, a, p[0], p[1])
			switch w.Kind {
			case api.WAtom:
				atoms = append(atoms, p)
			case api.WClash:
				clashes = append(clashes, p)
			}
			for _, q := range w.Pairs {
				if come.add(q) {
					next.add(q)
				}
			}
		}
		left = next
	}
	slices.SortFunc(atoms, compare)
	slices.SortFunc(clashes, compare)
	return atoms, clashes
}

// compare is which of two constraints is less: by the first places, then by the second ones.
func compare(p, q api.Pair) int { return slices.Compare(p[:], q[:]) }
