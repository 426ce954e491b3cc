package value

import (
	"math"
	"math/rand"
	"slices"
	"strings"
	"testing"

	"runnel/api"
)

// odd are numbers far from any place.
var odd = []int{math.MinInt, math.MinInt + 1, -1 << 32, -65537, -65536, -2, -1, 1 << 18, 1<<18 + 1, 1 << 31, 1<<32 + 1, 1 << 62, math.MaxInt - 1, math.MaxInt}

func wantNew(t *testing.T, h *Heap, n int, want Value, wantE int, wantOK bool) {
	t.Helper()
	if v, e, ok := h.New(n); v != want || e != wantE || ok != wantOK {
		t.Fatalf("New of %d is %v, %d, %v, not %v, %d, %v", n, v, e, ok, want, wantE, wantOK)
	}
}

func wantGet(t *testing.T, h *Heap, a, i, want Value, wantE int) {
	t.Helper()
	if v, e := h.Get(a, i); v != want || e != wantE {
		t.Errorf("Get of %v at %v is %v, %d, not %v, %d", a, i, v, e, want, wantE)
	}
}

func wantSet(t *testing.T, h *Heap, a, i, v Value, wantE int) {
	t.Helper()
	if e := h.Set(a, i, v); e != wantE {
		t.Errorf("Set of %v at %v to %v is %d, not %d", a, i, v, e, wantE)
	}
}

// wantHeap wants these arrays, and so much taken.
func wantHeap(t *testing.T, h *Heap, cells int, arrays ...[]int) {
	t.Helper()
	if got := h.Arrays(); !equalArrays(got, arrays) || h.Cells() != cells {
		t.Errorf("%v, %d, not %v, %d", got, h.Cells(), arrays, cells)
	}
}

// TestV2V3Examples are those of the chapter.
func TestV2V3Examples(t *testing.T) {
	var h Heap
	it, e, ok := h.New(2)
	if e != 0 || !ok {
		t.Fatal(e, ok)
	}
	wantSet(t, &h, it, num(1), num(9), 0)
	wantGet(t, &h, it, num(1), num(9), 0)
	wantGet(t, &h, it, num(2), Value{}, Range)
	wantGet(t, &h, arr(0), num(0), Value{}, Missing)
}

// TestV2ZeroHeap: it has no arrays, whatever it is asked.
func TestV2ZeroHeap(t *testing.T) {
	for _, h := range []*Heap{{}, new(Heap), (&Heap{}).Copy()} {
		wantHeap(t, h, 0)
		for _, v := range values() {
			if got := h.Len(v); got != 0 {
				t.Error(v, got)
			}
			wantGet(t, h, v, num(0), Value{}, Missing)
			wantGet(t, h, arr(1), v, Value{}, Missing)
			wantSet(t, h, v, num(0), num(1), Missing)
			wantSet(t, h, arr(1), num(0), v, Missing)
		}
		wantHeap(t, h, 0)
	}
}

// TestV2New: lengths that are none, and the ends of those that are; what is refused has no number, and changes nothing.
func TestV2New(t *testing.T) {
	var h Heap
	wantNew(t, &h, -1, Value{}, Size, true)
	wantNew(t, &h, 65537, Value{}, Size, true)
	for _, n := range odd {
		wantNew(t, &h, n, Value{}, Size, true)
	}
	wantHeap(t, &h, 0)
	wantNew(t, &h, 0, arr(1), 0, true)
	wantNew(t, &h, -1, Value{}, Size, true)
	wantNew(t, &h, 1, arr(2), 0, true)
	wantNew(t, &h, 65537, Value{}, Size, true)
	wantNew(t, &h, 3, arr(3), 0, true)
	wantHeap(t, &h, 7, []int{}, []int{0}, []int{0, 0, 0})
	wantNew(t, &h, 65536, arr(4), 0, true)
	wantNew(t, &h, 65535, arr(5), 0, true)
	wantHeap(t, &h, 7+65537+65536, []int{}, []int{0}, []int{0, 0, 0}, make([]int, 65536), make([]int, 65535))
	for number, want := range []int{0, 0, 1, 3, 65536, 65535, 0} {
		if got := h.Len(arr(number)); got != want {
			t.Error(number, got)
		}
	}
	wantGet(t, &h, arr(4), num(65535), num(0), 0)
	wantGet(t, &h, arr(4), num(65536), Value{}, Range)
	wantGet(t, &h, arr(5), num(65534), num(0), 0)
	wantGet(t, &h, arr(5), num(65535), Value{}, Range)
}

// TestV2Room: what just fits into a heap, and what just doesn't, where each array takes a cell more.
func TestV2Room(t *testing.T) {
	full := func(t *testing.T, lengths ...int) *Heap {
		t.Helper()
		h := &Heap{}
		for i, n := range lengths {
			wantNew(t, h, n, arr(i+1), 0, true)
		}
		return h
	}
	const most = 65536
	// Three of the longest arrays leave 65533 cells.
	h := full(t, most, most, most)
	for _, n := range []int{most, 65534, 65533} {
		wantNew(t, h, n, Value{}, 0, false)
	}
	if h.Cells() != 3*65537 || len(h.Arrays()) != 3 {
		t.Error(h.Cells())
	}
	wantNew(t, h, 65532, arr(4), 0, true)
	for _, n := range []int{0, 1, 2, most} {
		wantNew(t, h, n, Value{}, 0, false)
	}
	if h.Cells() != 262144 {
		t.Error(h.Cells())
	}
	// One cell is left, and two.
	h = full(t, most, most, most, 65531)
	wantNew(t, h, 1, Value{}, 0, false)
	wantNew(t, h, 0, arr(5), 0, true)
	wantNew(t, h, 0, Value{}, 0, false)
	h = full(t, most, most, most, 65530)
	wantNew(t, h, 2, Value{}, 0, false)
	wantNew(t, h, 1, arr(5), 0, true)
	wantNew(t, h, 0, Value{}, 0, false)
	// Four arrays of a quarter each, and of a cell less.
	h = full(t, most-1, most-1, most-1, most-1)
	wantNew(t, h, 0, Value{}, 0, false)
	h = full(t, most, most-1, most-1)
	wantNew(t, h, most-1, Value{}, 0, false)
	wantNew(t, h, most-2, arr(4), 0, true)
	if h.Cells() != 262144 {
		t.Error(h.Cells())
	}
	// A length that is none is told first, in a heap that has no room too.
	for _, n := range append([]int{-1, most + 1}, odd...) {
		wantNew(t, h, n, Value{}, Size, true)
	}
	if h.Cells() != 262144 || len(h.Arrays()) != 4 {
		t.Error(h.Cells())
	}
}

// TestV2EmptyArrays: each of them takes a cell, so that there are 2^18 of them at most; all of them have numbers.
func TestV2EmptyArrays(t *testing.T) {
	var h Heap
	for i := range 262144 {
		wantNew(t, &h, 0, arr(i+1), 0, true)
	}
	wantNew(t, &h, 0, Value{}, 0, false)
	wantNew(t, &h, 1, Value{}, 0, false)
	if h.Cells() != 262144 || len(h.Arrays()) != 262144 {
		t.Error(h.Cells())
	}
	wantGet(t, &h, arr(262144), num(0), Value{}, Range)
	wantGet(t, &h, arr(262145), num(0), Value{}, Missing)
}

// TestV2FullHeapIsUsed: where there is no room the arrays stay, and are set as ever.
func TestV2FullHeapIsUsed(t *testing.T) {
	var h Heap
	for range 3 {
		h.New(65536)
	}
	h.New(65532)
	for i, length := range []int{65536, 65536, 65536, 65532} {
		wantSet(t, &h, arr(i+1), num(length-1), num(i), 0)
		wantNew(t, &h, 0, Value{}, 0, false)
		wantGet(t, &h, arr(i+1), num(length-1), num(i), 0)
		wantGet(t, &h, arr(i+1), num(length-2), num(0), 0)
	}
}

// TestV2Len: of arrays, and of values that are none of the heap's.
func TestV2Len(t *testing.T) {
	var h Heap
	h.New(2)
	h.New(0)
	h.New(5)
	for number, want := range map[int]int{1: 2, 2: 0, 3: 5, 0: 0, 4: 0, -1: 0, -2: 0} {
		if got := h.Len(arr(number)); got != want {
			t.Error(number, got)
		}
	}
	for _, n := range odd {
		if got := h.Len(arr(n)); got != 0 {
			t.Error(n, got)
		}
	}
	for _, kind := range kinds {
		for _, n := range []int{0, 1, 2, 3} {
			if got := h.Len(Value{kind, n}); got != 0 && kind != api.Arr {
				t.Error(kind, n, got)
			}
		}
	}
}

// TestV3Missing: arrays that the heap hasn't, and values that are no arrays though they have the number of one; with indexes that are right and wrong, of which nothing is told.
func TestV3Missing(t *testing.T) {
	var h Heap
	h.New(2)
	h.New(3)
	var missing []Value
	for _, n := range append([]int{0, 3, 4}, odd...) {
		missing = append(missing, arr(n))
	}
	for _, kind := range kinds {
		if kind != api.Arr {
			missing = append(missing, Value{kind, 0}, Value{kind, 1}, Value{kind, 2})
		}
	}
	for _, a := range missing {
		for _, i := range []Value{num(0), num(1), num(-1), num(2), num(100), is(0), arr(1), {}} {
			wantGet(t, &h, a, i, Value{}, Missing)
			for _, v := range []Value{num(7), is(1), {}} {
				wantSet(t, &h, a, i, v, Missing)
			}
		}
	}
	wantHeap(t, &h, 7, []int{0, 0}, []int{0, 0, 0})
}

// TestV3Range: indexes ahead of an array, at its ends and behind it, and indexes that are no Ints.
func TestV3Range(t *testing.T) {
	var h Heap
	for _, n := range []int{3, 0, 1} {
		h.New(n)
	}
	for a, length := range map[int]int{1: 3, 2: 0, 3: 1} {
		for i := range length {
			wantGet(t, &h, arr(a), num(i), num(0), 0)
			wantSet(t, &h, arr(a), num(i), num(10*a+i), 0)
		}
		for _, n := range append([]int{-1, length, length + 1, 65535, 65536}, odd...) {
			wantGet(t, &h, arr(a), num(n), Value{}, Range)
			wantSet(t, &h, arr(a), num(n), num(7), Range)
			wantSet(t, &h, arr(a), num(n), is(1), Range)
		}
		for _, kind := range kinds {
			for _, n := range []int{-1, 0, 1, 2} {
				if kind != api.Int {
					wantGet(t, &h, arr(a), Value{kind, n}, Value{}, Range)
					wantSet(t, &h, arr(a), Value{kind, n}, num(7), Range)
				}
			}
		}
	}
	wantHeap(t, &h, 7, []int{10, 11, 12}, []int{}, []int{30})
}

// TestV3Set: an Int of any size is stored, and a value that is none leaves the cell, and raises nothing.
func TestV3Set(t *testing.T) {
	var h Heap
	h.New(2)
	for _, n := range numbers {
		wantSet(t, &h, arr(1), num(1), num(n), 0)
		wantGet(t, &h, arr(1), num(1), num(n), 0)
		wantHeap(t, &h, 3, []int{0, n})
		for _, kind := range kinds {
			if kind != api.Int {
				wantSet(t, &h, arr(1), num(1), Value{kind, n + 1}, 0)
				wantSet(t, &h, arr(1), num(0), Value{kind, 1}, 0)
			}
		}
		wantHeap(t, &h, 3, []int{0, n})
	}
}

// TestV5OneCell: Get returns what Set stored, and no other cell changes.
func TestV5OneCell(t *testing.T) {
	var h Heap
	lengths := []int{3, 0, 1, 5, 2}
	want := make([][]int, len(lengths))
	for a, n := range lengths {
		wantNew(t, &h, n, arr(a+1), 0, true)
		want[a] = make([]int, n)
	}
	next := 100
	for range 3 {
		for a, list := range want {
			for i := range list {
				next++
				list[i] = next
				wantSet(t, &h, arr(a+1), num(i), num(next), 0)
				wantGet(t, &h, arr(a+1), num(i), num(next), 0)
				wantHeap(t, &h, 16, want...)
			}
		}
	}
}

// TestV2ArraysAreNew: what Arrays answers is the caller's, as far as its lists may grow; the heap doesn't change with it, nor it with the heap.
func TestV2ArraysAreNew(t *testing.T) {
	var h Heap
	for i, n := range []int{2, 0, 3, 1} {
		h.New(n)
		for j := range n {
			h.Set(arr(i+1), num(j), num(10*i+j))
		}
	}
	want := [][]int{{0, 1}, {}, {20, 21, 22}, {30}}
	first, second := h.Arrays(), h.Arrays()
	for i := range first {
		list := first[i][:cap(first[i])]
		for j := range list {
			list[j] = -7
		}
		for later := i + 1; later < len(first); later++ {
			if !slices.Equal(first[later], want[later]) {
				t.Fatalf("%d and %d share a list", i, later)
			}
		}
	}
	first = first[:cap(first)]
	clear(first)
	if !equalArrays(second, want) {
		t.Error("two answers share a list", second)
	}
	wantHeap(t, &h, 10, want...)
	h.Set(arr(1), num(0), num(99))
	h.New(4)
	if !equalArrays(second, want) {
		t.Error("an answer changes with the heap", second)
	}
}

// TestV3Copy: a heap and its copy are changed one after the other, and copies of copies.
func TestV3Copy(t *testing.T) {
	var h Heap
	h.New(2)
	h.New(1)
	h.Set(arr(1), num(1), num(5))
	c := h.Copy()
	wantHeap(t, c, 5, []int{0, 5}, []int{0})
	h.Set(arr(1), num(1), num(6))
	wantHeap(t, c, 5, []int{0, 5}, []int{0})
	c.Set(arr(1), num(0), num(7))
	c.Set(arr(2), num(0), num(8))
	wantHeap(t, &h, 5, []int{0, 6}, []int{0})
	wantHeap(t, c, 5, []int{7, 5}, []int{8})
	// Both make arrays of the same numbers, each its own.
	wantNew(t, &h, 1, arr(3), 0, true)
	wantHeap(t, c, 5, []int{7, 5}, []int{8})
	wantNew(t, c, 3, arr(3), 0, true)
	wantNew(t, c, 0, arr(4), 0, true)
	wantHeap(t, &h, 7, []int{0, 6}, []int{0}, []int{0})
	wantHeap(t, c, 10, []int{7, 5}, []int{8}, []int{0, 0, 0}, []int{})
	wantSet(t, &h, arr(3), num(0), num(1), 0)
	wantSet(t, &h, arr(3), num(1), num(1), Range)
	wantSet(t, c, arr(3), num(1), num(2), 0)
	wantGet(t, &h, arr(4), num(0), Value{}, Missing)
	d := c.Copy()
	d.Set(arr(1), num(0), num(9))
	d.New(0)
	wantHeap(t, &h, 7, []int{0, 6}, []int{0}, []int{1})
	wantHeap(t, c, 10, []int{7, 5}, []int{8}, []int{0, 2, 0}, []int{})
	wantHeap(t, d, 11, []int{9, 5}, []int{8}, []int{0, 2, 0}, []int{}, []int{})
}

// TestV3CopyOfFullHeap: a copy has no more room than its heap.
func TestV3CopyOfFullHeap(t *testing.T) {
	var h Heap
	for range 3 {
		h.New(65536)
	}
	c := h.Copy()
	wantNew(t, c, 65533, Value{}, 0, false)
	wantNew(t, c, 65532, arr(4), 0, true)
	wantNew(t, &h, 65531, arr(4), 0, true)
	wantNew(t, c, 0, Value{}, 0, false)
	wantNew(t, &h, 0, arr(5), 0, true)
	if h.Cells() != 262144 || c.Cells() != 262144 {
		t.Error(h.Cells(), c.Cells())
	}
}

// act does one thing to a heap and to its model, and holds what it answers; with a value that may be no array, no index, no Int.
func act(t *testing.T, r *rand.Rand, h *Heap, m *modelHeap, lengths []int) string {
	t.Helper()
	pick := func(kind, below int) Value {
		if r.Intn(8) == 0 {
			kind = kinds[r.Intn(len(kinds))]
		}
		if r.Intn(12) == 0 {
			return Value{kind, odd[r.Intn(len(odd))]}
		}
		return Value{kind, r.Intn(below+2) - 1}
	}
	a := pick(api.Arr, len(m.lengths)+1)
	i := pick(api.Int, m.length(a))
	v := pick(api.Int, 1000)
	switch r.Intn(8) {
	case 0:
		n := lengths[r.Intn(len(lengths))]
		want, wantE, wantOK := m.make(n)
		wantNew(t, h, n, want, wantE, wantOK)
		switch {
		case !wantOK:
			return "no room"
		case wantE != 0:
			return "no length"
		}
		return "new"
	case 1, 2, 3:
		want, wantE := m.get(a, i)
		wantGet(t, h, a, i, want, wantE)
		return []string{"get", "", "get range", "get missing"}[wantE]
	case 4, 5, 6:
		wantE := m.put(a, i, v)
		wantSet(t, h, a, i, v, wantE)
		return []string{"set", "", "set range", "set missing"}[wantE]
	}
	if got, want := h.Len(a), m.length(a); got != want {
		t.Fatalf("Len of %v is %d, not %d", a, got, want)
	}
	return "len"
}

// TestV2V3AnyActs: heaps and copies of them after any acts, against models of theirs; with few cells, and with so many that the room runs out.
func TestV2V3AnyActs(t *testing.T) {
	r := rand.New(rand.NewSource(9))
	seen := map[string]int{}
	for round := range 60 {
		lengths, acts := []int{0, 1, 2, 3, 5, 8, -1, 65537}, 400
		if round%10 == 0 {
			lengths, acts = []int{0, 1, 65536, 65535, 40000, 30000, 20000, 99, -1, 65537}, 250
		}
		heaps, models := []*Heap{{}}, []*modelHeap{newModelHeap()}
		for range acts {
			k := r.Intn(len(heaps))
			seen[act(t, r, heaps[k], models[k], lengths)]++
			if r.Intn(60) == 0 && len(heaps) < 4 {
				heaps, models = append(heaps, heaps[k].Copy()), append(models, models[k].copy())
				seen["copy"]++
			}
			if round%10 > 0 {
				for k := range heaps {
					holdHeap(t, heaps[k], models[k])
				}
			}
			if t.Failed() {
				t.FailNow()
			}
		}
		for k := range heaps {
			holdHeap(t, heaps[k], models[k])
		}
	}
	for _, what := range strings.Split("new,no room,no length,get,get range,get missing,set,set range,set missing,len,copy", ",") {
		if seen[what] < 20 {
			t.Error("seen too rarely:", what, seen[what])
		}
	}
}
