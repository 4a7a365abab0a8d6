package step

import "tammy/api"

// The sides, as bits: a term may stand in another one several times, and must be sided for all of these. Being on both is as good as being on each: no kind may stand on the one and on the other, but not on both.
const (
	onNone = 0
	onL    = 1
	onR    = 2
	onB    = onL | onR
)

// sideOf is a side as bits.
func sideOf(side byte) int {
	switch side {
	case 'L':
		return onL
	case 'R':
		return onR
	}
	return onB
}

// Sided: may a term stand on a side?
func Sided(l []api.Sig, a api.Keyed, id int, side byte) bool {
	if id < 0 || id >= len(a.Keys) {
		return false
	}
	sides := make([]int, id+1)
	sides[id] = sideOf(side)
	// Downwards, since parts stand ahead: when a place is come to, all sides on which its term is are told.
	for i := range id + 1 {
		at := id - i
		if sides[at] == onNone {
			continue
		}
		t, is := look(l, a, at)
		if !is || !mayStand(t.Kind, sides[at]) {
			return false
		}
		how := vary(l, t)
		for k, part := range t.Args {
			sides[part] |= turn(sides[at], how[k])
		}
	}
	return true
}

// mayStand: may a term of a kind be on such sides, whatever its parts?
func mayStand(kind, on int) bool {
	switch kind {
	case api.Union:
		return on == onL
	case api.Inter, api.Proj:
		return on == onR
	}
	return true
}

// turn is the sides of a part, by those of its whole, and by how it varies.
func turn(on int, how byte) int {
	switch how {
	case with:
		return on
	case against:
		return [...]int{onNone: onNone, onL: onR, onR: onL, onB: onB}[on]
	}
	return onB
}
