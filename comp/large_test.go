package comp

import (
	"math/rand"
	"slices"
	"testing"

	"runnel/api"
)

// joined is a graph of which each node leads to one other, or to none; the lists lie behind one another.
func joined(size int, to func(n int) int) [][]int {
	all, next := make([]int, size), make([][]int, size)
	for n := range next {
		all[n] = to(n)
		next[n] = all[n : n+1 : n+1]
	}
	return next
}

func line(size int) [][]int { return joined(size, func(n int) int { return n + 1 }) }

func backLine(size int) [][]int { return joined(size, func(n int) int { return n - 1 }) }

func ring(size int) [][]int { return joined(size, func(n int) int { return (n + 1) % size }) }

// sizes are about as many nodes as the walk goes through in one go, as many as places of nesting, and many more.
var sizes = []int{1, 2, 3, api.MaxNodes - 1, api.MaxNodes, api.MaxNodes + 1, api.MaxNodes + 2, 2*api.MaxNodes + 2, 2*api.MaxNodes + 3, 1<<16 - 1, 1 << 16, 1<<16 + 1, 1 << 20}

// counted is whether a list is of all nodes, from the first one on or from the last one.
func counted(list []int, size int, down bool) bool {
	for i, n := range list {
		if down && n != size-1-i || !down && n != i {
			return false
		}
	}
	return len(list) == size
}

func holdLine(t *testing.T, next [][]int, down bool) {
	t.Helper()
	size := len(next)
	comps, above := Components(next), Above(next)
	if len(comps) != size || len(above) != size || !counted(Number(next), size, down) {
		t.Fatal("other components", size, down)
	}
	for c, nodes := range comps {
		n := c
		if down {
			n = size - 1 - c
		}
		if len(nodes) != 1 || nodes[0] != n {
			t.Fatal("component", c, nodes, size, down)
		}
		if list := above[c]; c == 0 && len(list) > 0 || c > 0 && (len(list) != 1 || list[0] != c-1) {
			t.Fatal("Above", c, list, size, down)
		}
	}
	first, last := 0, size-1
	if !down {
		first, last = last, first
	}
	if !counted(Reach(next, first), size, false) || !slices.Equal(Reach(next, last), []int{last}) {
		t.Fatal("Reach", size, down)
	}
	if Cyclic(next, first) || Cyclic(next, last) || Both(next, first, last) != (size == 1) {
		t.Fatal("Cyclic or Both", size, down)
	}
}

func holdRing(t *testing.T, next [][]int) {
	t.Helper()
	size := len(next)
	comps, above := Components(next), Above(next)
	if len(comps) != 1 || !counted(comps[0], size, false) || len(above) != 1 || len(above[0]) > 0 {
		t.Fatal("other components", size)
	}
	if number := Number(next); len(number) != size || slices.Max(number) != 0 || slices.Min(number) != 0 {
		t.Fatal("Number", size)
	}
	for _, n := range []int{0, size / 2, size - 1} {
		if !counted(Reach(next, n), size, false) || !Cyclic(next, n) || !Both(next, n, 0) || !Both(next, size-1, n) {
			t.Fatal("Reach, Cyclic or Both", n, size)
		}
	}
}

// TestLines covers K1 to K4: lines, of which the last node comes first, and the least number if they lead backwards.
func TestLines(t *testing.T) {
	for _, size := range sizes {
		holdLine(t, line(size), true)
		holdLine(t, backLine(size), false)
	}
}

func TestRings(t *testing.T) {
	for _, size := range sizes {
		holdRing(t, ring(size))
		holdRing(t, joined(size, func(n int) int { return (n + size - 1) % size }))
	}
}

// TestLimits covers P1 of the document, and its limits: what a process is given counts together, so a line and a ring of this size, of 32 bytes a node, are half of what it may be given as soon as each is asked twice. A stack that grew with the way would have come to its end.
func TestLimits(t *testing.T) {
	const size = 1 << 23
	next := line(size)
	if comps := Components(next); !counted(Number(next), size, true) || len(comps) != size || comps[0][0] != size-1 || comps[size-1][0] != 0 {
		t.Error("another line")
	}
	next = ring(size)
	if comps := Components(next); slices.Max(Number(next)) != 0 || len(comps) != 1 || !counted(comps[0], size, false) {
		t.Error("another ring")
	}
}

// TestLinesWithWaysBack covers K2: a long line with ways back, of which each makes one component of all that it goes over.
func TestLinesWithWaysBack(t *testing.T) {
	r := rand.New(rand.NewSource(4))
	for _, size := range []int{50, 3000, 3 * api.MaxNodes, 1 << 17} {
		for _, far := range []int{2, 10, size / 3} {
			numbers := r.Perm(size)
			next := make([][]int, size)
			for at := range size - 1 {
				next[numbers[at]] = append(next[numbers[at]], numbers[at+1])
			}
			meets := make([]int, size) // by place: the first one that it leads back to, or itself
			for at := range meets {
				meets[at] = at
			}
			for range size / far / 2 {
				at := r.Intn(size)
				to := max(0, at-r.Intn(far))
				meets[at] = min(meets[at], to)
				next[numbers[at]] = append(next[numbers[at]], numbers[to])
				slices.Reverse(next[numbers[at]])
			}
			got, want := Components(next), stretches(numbers, meets)
			if !same(got, want) {
				t.Fatal("other components", size, far, len(got), len(want))
			}
			if size < 9999 {
				holdK4(t, next)
			}
		}
	}
}

// stretches is the components of a line with ways back, the last one first: all that lies between two places that no way back goes over.
func stretches(numbers, meets []int) [][]int {
	var comps [][]int
	var nodes []int
	first := len(numbers)
	for at := len(numbers) - 1; at >= 0; at-- {
		first = min(first, meets[at])
		nodes = append(nodes, numbers[at])
		if first == at {
			slices.Sort(nodes)
			comps, nodes = append(comps, nodes), nil
		}
	}
	return comps
}

// TestManyFreeNodes covers K2: as many nodes as there may be places of nesting, of which all could come next, and such as one waits for.
func TestManyFreeNodes(t *testing.T) {
	const size = 1 << 16
	if !counted(Number(make([][]int, size)), size, false) {
		t.Error("nodes alone")
	}
	star := make([][]int, size)
	for n := range size {
		star[0] = append(star[0], size-1-n)
	}
	if got := Number(star); got[0] != size-1 || got[1] != 0 || got[size-1] != size-2 || !slices.IsSorted(got[1:]) {
		t.Error("a star")
	}
	if got := Above(star); len(got[size-1]) != size-1 || !counted(got[size-1], size-1, false) {
		t.Error("Above of a star")
	}
	heart := joined(size, func(n int) int { return size / 2 })
	if got := Number(heart); got[size/2] != 0 || got[0] != 1 || got[size-1] != size-1 || !Cyclic(heart, size/2) || Cyclic(heart, 0) {
		t.Error("all to one")
	}
}

// TestFullGraphs covers K2 and K3: each node leads to each other one, or to each lesser one.
func TestFullGraphs(t *testing.T) {
	const size = 1500
	full, half := make([][]int, size), make([][]int, size)
	for n := range size {
		for m := range size {
			full[n] = append(full[n], m)
		}
		half[n] = full[n][:n]
	}
	if got := Components(full); len(got) != 1 || !counted(got[0], size, false) || len(Above(full)[0]) > 0 {
		t.Error("full", len(got))
	}
	above := Above(half)
	if !counted(Number(half), size, false) || len(above) != size {
		t.Fatal("half")
	}
	for c, list := range above {
		if !counted(list, c, false) {
			t.Fatal(c, list)
		}
	}
}
