// Package fresh copies what is kept in tables, so that an answer shares no memory with what was handed in.
package fresh

import (
	"slices"

	"tammy/api"
)

// Keyed is a copy of a table.
func Keyed(t api.Keyed) api.Keyed {
	return api.Keyed{Keys: Rows(t.Keys), Slots: slices.Clone(t.Slots)}
}

// Rows is a copy of rows, and of more behind. All numbers lie in one piece of memory, which costs less than a piece for each row; each row's room ends with it, so that none grows into the next.
func Rows(rows [][]int, more ...[]int) [][]int {
	out := make([][]int, 0, len(rows)+len(more))
	room := make([]int, 0, numbers(rows)+numbers(more))
	for _, group := range [...][][]int{rows, more} {
		for _, row := range group {
			from := len(room)
			room = append(room, row...)
			out = append(out, room[from:len(room):len(room)])
		}
	}
	return out
}

// numbers is how many numbers rows have in all.
func numbers(rows [][]int) int {
	n := 0
	for _, row := range rows {
		n += len(row)
	}
	return n
}
