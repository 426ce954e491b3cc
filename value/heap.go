package value

import (
	"slices"
	"sync/atomic"

	"runnel/api"
)

// Heap is arrays.
type Heap struct {
	arrays [][]int // the array of a number is one place ahead of it, since the number 0 is that of none

	// All cells, and one more for each array. The number is atomic, so that it may be asked while the one who uses the heap makes arrays.
	cells atomic.Int64
}

// New is an array more; false: there is no room.
func (h *Heap) New(n int) (Value, int, bool) {
	if n < 0 || n > api.MaxCells {
		return Value{}, Size, true
	}
	taken := int64(n) + 1
	if h.cells.Load()+taken > api.MaxHeap {
		return Value{}, none, false
	}
	h.cells.Add(taken)
	h.arrays = append(h.arrays, make([]int, n))
	return Value{api.Arr, len(h.arrays)}, none, true
}

// Get is what a cell holds, or the exception that there is no such cell.
func (h *Heap) Get(a, i Value) (Value, int) {
	cell, e := h.cell(a, i)
	if e != none {
		return Value{}, e
	}
	return number(*cell), none
}

// Set lets a cell hold an Int, or answers the exception of Get.
func (h *Heap) Set(a, i, v Value) int {
	cell, e := h.cell(a, i)
	if e == none && v.Kind == api.Int {
		*cell = v.N
	}
	return e
}

// Len is the number of cells of an array.
func (h *Heap) Len(a Value) int {
	if !h.has(a) {
		return 0
	}
	return len(h.arrays[a.N-1])
}

// Cells is how much of a heap is taken.
func (h *Heap) Cells() int { return int(h.cells.Load()) }

// Arrays are what the arrays hold, by number.
func (h *Heap) Arrays() [][]int {
	arrays := make([][]int, len(h.arrays))
	for i, cells := range h.arrays {
		arrays[i] = slices.Clone(cells)
	}
	return arrays
}

// Copy is a heap of its own that holds the same.
func (h *Heap) Copy() *Heap {
	c := &Heap{arrays: h.Arrays()}
	c.cells.Store(h.cells.Load())
	return c
}

// has tells whether a value is an array of the heap.
func (h *Heap) has(a Value) bool {
	return a.Kind == api.Arr && 1 <= a.N && a.N <= len(h.arrays)
}

// cell is where the heap keeps the cell i of an array, or nil and the exception that there is none.
func (h *Heap) cell(a, i Value) (*int, int) {
	if !h.has(a) {
		return nil, Missing
	}
	cells := h.arrays[a.N-1]
	if i.Kind != api.Int || i.N < 0 || i.N >= len(cells) {
		return nil, Range
	}
	return &cells[i.N], none
}
