package hash_test

import (
	"encoding/binary"
	"hash/fnv"
	"math"
	"math/rand"
	"slices"
	"testing"

	"tammy/api"
	"tammy/hash"
)

// wantHash reckons a hash by the library's own.
func wantHash(key []int) uint32 {
	h := fnv.New32a()
	for _, n := range key {
		h.Write(binary.LittleEndian.AppendUint64(nil, uint64(n)))
	}
	return h.Sum32()
}

// wantSlots lays keys in that many slots, as the document says it, by the library's hash.
func wantSlots(keys [][]int, many int) []int {
	slots := make([]int, many)
	for i, key := range keys {
		at := int(wantHash(key)) % many
		for slots[at] != 0 {
			at++
			if at == many {
				at = 0
			}
		}
		slots[at] = i + 1
	}
	return slots
}

// wantSize counts up: the first power of 2 from 8 on whose three quarters are n or more.
func wantSize(n int) int {
	size := 8
	for 3*size < 4*n {
		size *= 2
	}
	return size
}

// deep is a copy that shares nothing.
func deep(t api.Keyed) api.Keyed {
	out := api.Keyed{Slots: slices.Clone(t.Slots)}
	for _, key := range t.Keys {
		out.Keys = append(out.Keys, slices.Clone(key))
	}
	return out
}

// table is what is right of those keys.
func table(keys ...[]int) api.Keyed {
	return api.Keyed{Keys: keys, Slots: wantSlots(keys, wantSize(len(keys)))}
}

// count is n keys, none twice.
func count(n int) [][]int {
	var keys [][]int
	for i := range n {
		keys = append(keys, []int{i})
	}
	return keys
}

// atSlot is n keys whose own slot, of that many, is the one that is told.
func atSlot(slot, many, n int) [][]int {
	var keys [][]int
	for i := 0; len(keys) < n; i++ {
		if key := []int{i, -7}; int(wantHash(key))%many == slot {
			keys = append(keys, key)
		}
	}
	return keys
}

func equalTables(a, b api.Keyed) bool {
	return slices.EqualFunc(a.Keys, b.Keys, slices.Equal[[]int]) && slices.Equal(a.Slots, b.Slots)
}

// TestHash (P2.1): hashes of known keys, and the order of bytes and of numbers, and numbers below 0.
func TestHash(t *testing.T) {
	for i, x := range []struct {
		key  []int
		want uint32
	}{
		{nil, 2166136261},
		{[]int{}, 2166136261},
		{[]int{0}, 0x9be17165},
		{[]int{-1}, wantHash([]int{-1})},
		{[]int{0x0102030405060708}, wantHash([]int{0x0102030405060708})},
	} {
		if got := hash.Hash(x.key); got != x.want {
			t.Errorf("%d: Hash(%v) is %#x", i, x.key, got)
		}
	}
	numbers := []int{0, 1, -1, 5, 255, 256, -256, 65536, 1 << 31, 1 << 32, -1 << 32, math.MaxInt32, math.MinInt32, math.MaxInt, math.MinInt}
	for _, a := range numbers {
		for _, b := range numbers {
			for _, key := range [][]int{{a}, {a, b}, {b, a, b}, {0, a, 0, b, 0}} {
				if got := hash.Hash(key); got != wantHash(key) {
					t.Errorf("Hash(%v) is %#x", key, got)
				}
			}
		}
	}
}

// TestHashBytes (P2.1): each byte of each of a number's eight.
func TestHashBytes(t *testing.T) {
	for place := range 8 {
		for b := range 256 {
			key := []int{int(uint64(b) << (8 * place))}
			if got := hash.Hash(key); got != wantHash(key) {
				t.Errorf("Hash(%v) is %#x", key, got)
			}
		}
	}
}

// TestSize (P2.1): every small number, each edge up to 2^40, and numbers below 0.
func TestSize(t *testing.T) {
	for n, want := range map[int]int{
		0: 8, 1: 8, 6: 8, 7: 16, 12: 16, 13: 32, 24: 32, 25: 64,
		-1: 8, -7: 8, -1 << 40: 8, math.MinInt: 8,
		1 << 40: 1 << 41, 1<<40 - 1: 1 << 41,
	} {
		if got := hash.Size(n); got != want {
			t.Errorf("Size(%d) is %d", n, got)
		}
	}
	for n := range 5000 {
		if got := hash.Size(n); got != wantSize(n) {
			t.Errorf("Size(%d) is %d", n, got)
		}
	}
	for size := 8; size <= 1<<40; size *= 2 {
		if edge := size / 4 * 3; hash.Size(edge) != size || hash.Size(edge+1) != 2*size {
			t.Errorf("Size is %d and %d at %d", hash.Size(edge), hash.Size(edge+1), edge)
		}
	}
}

// TestSizeEnds (R1): beyond what is promised, Size still ends.
func TestSizeEnds(t *testing.T) {
	for _, n := range []int{1 << 50, 3 << 60, 3<<60 + 1, 3 << 61, 3<<61 + 1, math.MaxInt} {
		hash.Size(n)
	}
}

// TestLay (P2.1): nothing, keys without collisions, with them, behind the last slot, and keys that are there twice.
func TestLay(t *testing.T) {
	if got := hash.Lay(nil); !slices.Equal(got, make([]int, 8)) {
		t.Errorf("nothing is laid so: %v", got)
	}
	if got := hash.Lay([][]int{}); !slices.Equal(got, make([]int, 8)) {
		t.Errorf("nothing is laid so: %v", got)
	}
	last := atSlot(7, 8, 4)
	if got := hash.Lay(last); !slices.Equal(got, []int{2, 3, 4, 0, 0, 0, 0, 1}) {
		t.Errorf("behind the last slot isn't the first: %v", got)
	}
	mixed := append(atSlot(6, 8, 2), append(atSlot(0, 8, 1), atSlot(6, 8, 3)[2])...)
	if got := hash.Lay(mixed); !slices.Equal(got, []int{3, 4, 0, 0, 0, 0, 1, 2}) {
		t.Errorf("mixed keys are laid so: %v", got)
	}
	if got := hash.Lay([][]int{last[0], last[0], nil, last[0]}); !slices.Equal(got, wantSlots([][]int{last[0], last[0], nil, last[0]}, 8)) {
		t.Errorf("keys that are there twice are laid so: %v", got)
	}
	for n := range 200 {
		for _, keys := range [][][]int{count(n), atSlot(15, 16, n)} {
			if got := hash.Lay(keys); !slices.Equal(got, wantSlots(keys, wantSize(n))) {
				t.Errorf("%d keys are laid so: %v", n, got)
			}
		}
	}
}

// TestRight (P2.1): tables that are right, and each way in which one isn't.
func TestRight(t *testing.T) {
	six := table(count(6)...)
	for i, x := range []struct {
		t    api.Keyed
		want bool
	}{
		{table(), true},
		{api.Keyed{Slots: make([]int, 8)}, true},
		{api.Keyed{Keys: [][]int{}, Slots: make([]int, 8)}, true},
		{table([]int{5}), true},
		{table(nil), true},
		{table([]int{1, 2}, []int{2, 1}, []int{1}, []int{}, []int{1, 2, 0}), true},
		{six, true},
		{table(count(7)...), true},
		{table(atSlot(7, 8, 6)...), true},
		{api.Keyed{}, false},
		{api.Keyed{Slots: make([]int, 7)}, false},
		{api.Keyed{Slots: make([]int, 16)}, false},
		{api.Keyed{Keys: [][]int{{5}}}, false},
		{api.Keyed{Keys: [][]int{{5}}, Slots: make([]int, 8)}, false},
		{api.Keyed{Keys: count(6), Slots: wantSlots(count(6), 16)}, false},
		{api.Keyed{Keys: count(7), Slots: wantSlots(count(7), 8)}, false},
		{api.Keyed{Keys: count(9), Slots: []int{1, 2, 3, 4, 5, 6, 7, 8}}, false},
		{api.Keyed{Slots: six.Slots}, false},
		{api.Keyed{Keys: count(5), Slots: six.Slots}, false},
		{table([]int{5}, []int{5}), false},
		{table(nil, []int{}), false},
		{table([]int{1, 2}, []int{3}, []int{4}, []int{1, 2}), false},
	} {
		if got := hash.Right(x.t); got != x.want {
			t.Errorf("%d: Right is %v", i, got)
		}
	}
}

// TestRightTwice (P2.1): among keys of one slot any two that are the same are seen, wherever they stand, and whether both of them are laid or the first or the second alone.
func TestRightTwice(t *testing.T) {
	for _, n := range []int{6, 12, 40} {
		for i := range n {
			for j := range i {
				keys := atSlot(3, 8, n)
				keys[i] = slices.Clone(keys[j])
				twice, once := table(keys...), table(keys...)
				once.Slots[slices.Index(once.Slots, i+1)] = 0
				later := deep(once)
				later.Slots[slices.Index(later.Slots, j+1)] = i + 1
				for _, x := range []api.Keyed{twice, once, later} {
					if hash.Right(x) {
						t.Errorf("%d is the same as %d: %v is right", i, j, x)
					}
				}
			}
		}
	}
}

// TestRightSlots (P2.1): a right table with one slot other than it was, or two of them or two keys changed over, is right only if its slots are still its keys, laid.
func TestRightSlots(t *testing.T) {
	for _, keys := range [][][]int{nil, count(1), count(6), count(7), atSlot(5, 8, 5)} {
		is := table(keys...)
		for i := range is.Slots {
			for _, v := range []int{-1, 0, 1, 2, len(keys), len(keys) + 1, math.MinInt, math.MaxInt} {
				x := deep(is)
				x.Slots[i] = v
				if got, want := hash.Right(x), v == is.Slots[i]; got != want {
					t.Errorf("%v: Right is %v", x, got)
				}
			}
			for j := range i {
				x := deep(is)
				x.Slots[i], x.Slots[j] = x.Slots[j], x.Slots[i]
				if got, want := hash.Right(x), is.Slots[i] == is.Slots[j]; got != want {
					t.Errorf("%v: Right is %v", x, got)
				}
			}
		}
		for i := range keys {
			for j := range i {
				x := deep(is)
				x.Keys[i], x.Keys[j] = x.Keys[j], x.Keys[i]
				if got, want := hash.Right(x), equalTables(x, table(x.Keys...)); got != want {
					t.Errorf("%v: Right is %v", x, got)
				}
			}
		}
	}
}

// TestSame (P2.1, R3): keys and slots, element by element.
func TestSame(t *testing.T) {
	for i, x := range []struct {
		a, b api.Keyed
		want bool
	}{
		{table(), table(), true},
		{api.Keyed{}, api.Keyed{Keys: [][]int{}, Slots: []int{}}, true},
		{table(count(9)...), table(count(9)...), true},
		{table(nil), table([]int{}), true},
		{table([]int{1}, []int{2}), table([]int{2}, []int{1}), false},
		{table([]int{1}, []int{2}), table([]int{1}), false},
		{table([]int{1, 2}), table([]int{1}), false},
		{table(nil), table(), false},
		{api.Keyed{}, table(), false},
		{api.Keyed{Keys: count(2)}, table(count(2)...), false},
		{api.Keyed{Slots: []int{1, 2}}, api.Keyed{Slots: []int{1, 3}}, false},
		{api.Keyed{Slots: []int{1, 2}}, api.Keyed{Slots: []int{1, 2, 0}}, false},
		{api.Keyed{Keys: count(2), Slots: []int{1}}, api.Keyed{Keys: count(2), Slots: []int{1}}, true},
		{api.Keyed{Keys: [][]int{{1}, {2}}, Slots: []int{1}}, api.Keyed{Keys: [][]int{{1}, {3}}, Slots: []int{1}}, false},
		{api.Keyed{Keys: [][]int{{1, 2}, {3}}}, api.Keyed{Keys: [][]int{{1}, {2, 3}}}, false},
	} {
		if hash.Same(x.a, x.b) != x.want || hash.Same(x.b, x.a) != x.want {
			t.Errorf("%d: Same is %v", i, !x.want)
		}
	}
}

// TestFind (P2.2): each key that is there at its place, also behind others of its slot; what isn't there nowhere.
func TestFind(t *testing.T) {
	for n := range 60 {
		for _, keys := range [][][]int{count(n), atSlot(7, 8, n)} {
			x := table(keys...)
			for i, key := range keys {
				if got := hash.Find(x, slices.Clone(key)); got != i {
					t.Errorf("%d keys: Find of %v is %d", n, key, got)
				}
			}
			for _, key := range [][]int{nil, {-1}, {n}, {n, 0}, {0, 0, 0}, atSlot(7, 8, n+1)[n]} {
				if slices.ContainsFunc(keys, func(k []int) bool { return slices.Equal(k, key) }) {
					continue
				}
				if got := hash.Find(x, key); got != -1 {
					t.Errorf("%d keys: Find of %v is %d", n, key, got)
				}
			}
		}
	}
	x := table([]int{1, 2}, nil, []int{1}, []int{2, 1})
	for i, key := range [][]int{{1, 2}, {}, {1}, {2, 1}} {
		if got := hash.Find(x, key); got != i {
			t.Errorf("Find of %v is %d", key, got)
		}
	}
	if hash.Find(x, []int{2}) != -1 || hash.Find(x, []int{1, 2, 0}) != -1 || hash.Find(table(), nil) != -1 || hash.Find(api.Keyed{}, nil) != -1 {
		t.Error("something is found that isn't there")
	}
}

// TestFindTwins (P2.2): keys of one hash are told apart by what they are.
func TestFindTwins(t *testing.T) {
	a, b := twins()
	for _, x := range []struct {
		a, b []int
	}{{a, b}, {b, a}} {
		one := table(x.a)
		if hash.Find(one, x.b) != -1 || hash.Find(table(x.a, x.b), x.b) != 1 || !hash.Right(table(x.a, x.b)) {
			t.Error("keys of one hash are taken for the same")
		}
		if two, at, isNew := hash.Put(one, x.b); !equalTables(two, table(x.a, x.b)) || at != 1 || !isNew {
			t.Error("a key of one hash with another isn't put", two, at, isNew)
		}
	}
}

// twins is two keys of one hash.
func twins() ([]int, []int) {
	seen := map[uint32]int{}
	for i := 0; ; i++ {
		h := wantHash([]int{i, i})
		if j, ok := seen[h]; ok {
			return []int{j, j}, []int{i, i}
		}
		seen[h] = i
	}
}

// TestPut (P2.2): the document's example, what is there, what is new, and the edges at which there are more slots.
func TestPut(t *testing.T) {
	for _, nothing := range []api.Keyed{table(), {}} {
		x, at, isNew := hash.Put(nothing, []int{5})
		if at != 0 || !isNew || !equalTables(x, table([]int{5})) {
			t.Error(x, at, isNew)
		}
	}
	for _, keys := range [][][]int{count(50), atSlot(7, 8, 50)} {
		x := table()
		for i, key := range keys {
			y, at, isNew := hash.Put(x, key)
			if at != i || !isNew || !equalTables(y, table(keys[:i+1]...)) {
				t.Fatalf("%d: %v, %d, %v", i, y, at, isNew)
			}
			for j := range i + 1 {
				z, at, isNew := hash.Put(y, slices.Clone(keys[j]))
				if at != j || isNew || !equalTables(z, y) {
					t.Fatalf("%d, %d: %v, %d, %v", i, j, z, at, isNew)
				}
			}
			x = y
		}
	}
}

// TestPutEmpty (P2.2): the key of no numbers is a key.
func TestPutEmpty(t *testing.T) {
	x, at, isNew := hash.Put(table([]int{0}), nil)
	if at != 1 || !isNew || !equalTables(x, table([]int{0}, nil)) {
		t.Error(x, at, isNew)
	}
	if y, at, isNew := hash.Put(x, []int{}); at != 1 || isNew || !equalTables(x, y) {
		t.Error(y, at, isNew)
	}
}

// TestForEver (P2.3): whatever is put, and in whatever order, what comes out is right, what was put is found at the place where it was, and each key stands once.
func TestForEver(t *testing.T) {
	random := rand.New(rand.NewSource(2))
	for range 40 {
		x, first := table(), map[[2]int]int{}
		var put [][]int
		for range 150 {
			key := []int{random.Intn(12) - 3, random.Intn(12) - 3}
			y, at, isNew := hash.Put(x, key)
			was, known := first[[2]int(key)]
			if known == isNew || known && at != was || isNew && at != len(put) {
				t.Fatalf("%v is put at %d", key, at)
			}
			if isNew {
				first[[2]int(key)] = at
				put = append(put, key)
			}
			if !hash.Right(y) || !equalTables(y, table(put...)) {
				t.Fatalf("after %v: %v", key, y)
			}
			x = y
			for i, key := range put {
				if hash.Find(x, key) != i {
					t.Fatalf("%v isn't found at %d", key, i)
				}
			}
		}
	}
}

// spare is a table whose lists have room behind them, and what stands there, to see whether it is written into.
func spare(keys [][]int) (api.Keyed, func() bool) {
	x := table(keys...)
	wide := make([][]int, 0, len(keys)+4)
	for _, key := range keys {
		wide = append(wide, append(slices.Clone(key), 91, 92)[:len(key)])
	}
	all := append(wide, []int{93}, []int{94})
	slots := append(slices.Clone(x.Slots), 95, 96)
	x.Keys, x.Slots = all[:len(keys)], slots[:len(x.Slots)]
	was := deep(x)
	return x, func() bool {
		for _, key := range x.Keys {
			if !slices.Equal(key[len(key):len(key)+2], []int{91, 92}) {
				return false
			}
		}
		return equalTables(x, was) && all[len(keys)][0] == 93 && slots[len(slots)-2] == 95
	}
}

// TestMemory (R3): what is handed in stays as it is, with the room behind it; what comes out shares nothing with it, nor do two of its keys share anything.
func TestMemory(t *testing.T) {
	for n := 1; n < 30; n++ {
		for _, key := range [][]int{{0}, {n - 1}, {n}, {n, n}, nil} {
			x, asItWas := spare(count(n))
			given := append(slices.Clone(key), 97)[:len(key)]
			y, at, isNew := hash.Put(x, given)
			z, _, _ := hash.Put(x, []int{-5})
			was := deep(y)
			hash.Right(x)
			hash.Find(x, key)
			hash.Same(x, y)
			hash.Lay(x.Keys)
			if !asItWas() || given[:len(key)+1][len(key)] != 97 {
				t.Fatal("a call writes into what it is given")
			}
			for i := range y.Keys {
				_ = append(y.Keys[i], 98)
			}
			for i := range given {
				given[i] = -9
			}
			if !equalTables(y, was) {
				t.Fatal("keys share memory with one another, or with what is given")
			}
			wipe(z)
			if !equalTables(y, was) || !asItWas() {
				t.Fatal("two answers share memory")
			}
			wipe(y)
			if !asItWas() {
				t.Fatalf("the answer shares memory (%d, %v)", at, isNew)
			}
		}
	}
}

// wipe writes over all of a table.
func wipe(t api.Keyed) {
	for i, key := range t.Keys {
		for j := range key {
			key[j] = -9
		}
		t.Keys[i] = nil
	}
	for i := range t.Slots {
		t.Slots[i] = -9
	}
}

// TestWrongTables (R1): of tables that aren't right nothing is promised but that each call ends, and none panics.
func TestWrongTables(t *testing.T) {
	values := []int{-1, 1, 2, 3, 7, math.MinInt, math.MaxInt}
	for many := range 20 {
		for _, v := range values {
			slots := slices.Repeat([]int{v}, many)
			for n := range 20 {
				x := api.Keyed{Keys: count(n), Slots: slots}
				if hash.Right(x) {
					t.Errorf("%v is right", x)
				}
				for _, key := range [][]int{nil, {0}, {1}, {2}, {-1}} {
					hash.Find(x, key)
					hash.Put(x, key)
				}
			}
		}
	}
}
