package ifg

import (
	"slices"

	"tammy/api"
)

// copyOf is for answers: who writes into one must not write into g.
func copyOf(g api.Graph) api.Graph {
	return api.Graph{
		Ranks: copyRow(g.Ranks),
		U:     api.Cells{V: copyRow(g.U.V), Notes: copyRow(g.U.Notes), Marks: copyRow(g.U.Marks)},
		Pre:   copyRows(g.Pre),
		Suc:   copyRows(g.Suc),
	}
}

func copyRow[T any](l []T) []T {
	out := make([]T, len(l))
	copy(out, l)
	return out
}

func copyRows(rows [][]int) [][]int {
	out := make([][]int, len(rows))
	for i, row := range rows {
		out[i] = copyRow(row)
	}
	return out
}

// lay lays a place into a row that rises, in place, and tells whether it is new.
func lay(row *[]int, place int) bool {
	at, was := slices.BinarySearch(*row, place)
	if !was {
		*row = slices.Insert(*row, at, place)
	}
	return !was
}
