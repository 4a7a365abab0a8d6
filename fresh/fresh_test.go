package fresh_test

import (
	"slices"
	"testing"

	"tammy/api"
	"tammy/fresh"
)

// same: are rows the same, element by element?
func same(x, y [][]int) bool { return slices.EqualFunc(x, y, slices.Equal[[]int]) }

// TestRows: the same rows, those of more behind; none shares memory with what was handed in, nor with another one, also where it grows.
func TestRows(t *testing.T) {
	for _, rows := range [][][]int{nil, {}, {nil}, {{}}, {{1}}, {{1, 2}, {3}}, {{}, {1, 2, 3}, nil, {4, 5}, {}}} {
		for _, more := range [][][]int{nil, {nil}, {{6}}, {{6, 7}, {}, {8}}} {
			want := slices.Concat(rows, more)
			out := fresh.Rows(rows, more...)
			if !same(out, want) {
				t.Fatalf("Rows(%v, %v): %v", rows, more, out)
			}
			for i := range out {
				_ = append(out[i], -1)
				for k := range out[i] {
					out[i][k] -= 100
				}
			}
			for i, row := range out {
				for k := range row {
					row[k] += 100
				}
				if !slices.Equal(row, want[i]) {
					t.Fatalf("Rows(%v, %v): row %d shares memory", rows, more, i)
				}
			}
			if !same(slices.Concat(rows, more), want) {
				t.Fatalf("Rows(%v, %v) shares memory with what was handed in", rows, more)
			}
		}
	}
}

// TestKeyed: the same table, in new memory.
func TestKeyed(t *testing.T) {
	for _, x := range []api.Keyed{{}, {Slots: []int{0, 0}}, {Keys: [][]int{{1, 2}, {}, {3}}, Slots: []int{3, 0, 1, 2}}} {
		was := api.Keyed{Slots: slices.Clone(x.Slots)}
		for _, key := range x.Keys {
			was.Keys = append(was.Keys, slices.Clone(key))
		}
		out := fresh.Keyed(x)
		if !same(out.Keys, was.Keys) || !slices.Equal(out.Slots, was.Slots) {
			t.Errorf("Keyed(%v): %v", x, out)
		}
		for _, l := range append(out.Keys, out.Slots) {
			for i := range l {
				l[i] = -9
			}
		}
		clear(out.Keys)
		if !same(x.Keys, was.Keys) || !slices.Equal(x.Slots, was.Slots) {
			t.Errorf("Keyed(%v) shares memory: it is %v", was, x)
		}
	}
}
