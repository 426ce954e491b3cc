package comp

import (
	"math"
	"slices"
	"testing"
)

// sample is the graph of the chapter's example.
func sample() [][]int { return [][]int{{1}, {2}, {1, 3}, {}, {4}} }

// want wants a graph to have just these components, in this order, and above them these.
func want(t *testing.T, next, comps, above [][]int) {
	t.Helper()
	if got := Components(next); !same(got, comps) {
		t.Errorf("Components: %v, not %v, of %v", got, comps, next)
	}
	if got := Above(next); !same(got, above) {
		t.Errorf("Above: %v, not %v, of %v", got, above, next)
	}
	hold(t, next)
}

func TestExample(t *testing.T) {
	want(t, sample(), [][]int{{3}, {1, 2}, {0}, {4}}, [][]int{nil, {0}, {1}, nil})
	if got := Number(sample()); !slices.Equal(got, []int{2, 1, 1, 0, 3}) {
		t.Error(got)
	}
}

func TestK1Reach(t *testing.T) {
	for from, nodes := range [][]int{{0, 1, 2, 3}, {1, 2, 3}, {1, 2, 3}, {3}, {4}} {
		if got := Reach(sample(), from); !slices.Equal(got, nodes) {
			t.Errorf("%v, not %v, of %d", got, nodes, from)
		}
	}
	// In increasing order, whatever the graph names first, and each node once.
	next := [][]int{{}, {0}, {4, 1, 4}, {}, {1, 0, 2}, {4, 3, 2, 1, 0}}
	for from, nodes := range [][]int{{0}, {0, 1}, {0, 1, 2, 4}, {3}, {0, 1, 2, 4}, {0, 1, 2, 3, 4, 5}} {
		if got := Reach(next, from); !slices.Equal(got, nodes) {
			t.Errorf("%v, not %v, of %d", got, nodes, from)
		}
	}
}

func TestK1Both(t *testing.T) {
	connected := [][2]int{{0, 0}, {1, 1}, {1, 2}, {2, 1}, {2, 2}, {3, 3}, {4, 4}}
	for a := -3; a < 9; a++ {
		for b := -3; b < 9; b++ {
			if got := Both(sample(), a, b); got != slices.Contains(connected, [2]int{a, b}) {
				t.Error(a, b, got)
			}
		}
	}
	// Over others, either way.
	next := [][]int{{3}, {0, 2}, {}, {4}, {1}}
	for a := range 5 {
		for b := range 5 {
			if got := Both(next, a, b); got != (a == b || a != 2 && b != 2) {
				t.Error(a, b, got)
			}
		}
	}
}

// TestNoNodes covers K1 and K3: numbers that are nodes of no graph have no answers, of the nodes beside them or without any.
func TestNoNodes(t *testing.T) {
	for _, next := range [][][]int{nil, {}, {nil}, {{0}}, sample(), {{1}, {0}}, {strange, {0}, append([]int{0}, strange...)}} {
		for _, n := range append([]int{len(next), len(next) + 1}, strange...) {
			if got := Reach(next, n); len(got) > 0 {
				t.Error("Reach", n, got, next)
			}
			if Cyclic(next, n) || Both(next, n, n) {
				t.Error("Cyclic or Both", n, next)
			}
			for k := -1; k <= len(next); k++ {
				if Both(next, n, k) || Both(next, k, n) {
					t.Error("Both", n, k, next)
				}
			}
		}
		hold(t, next)
	}
}

// TestNumbersThatAreNoNodes covers the words on graphs: a graph is the same with and without them, wherever they stand in a list, those beside the nodes too.
func TestNumbersThatAreNoNodes(t *testing.T) {
	for _, next := range [][][]int{{nil}, {{0}}, sample(), {{1}, {0}, {0}}, {nil, nil, {1, 0}, {2, 2}}} {
		comps, number, above := Components(next), Number(next), Above(next)
		for _, n := range append([]int{len(next), len(next) + 1}, strange...) {
			for n2 := range next {
				for at := 0; at <= len(next[n2]); at++ {
					other := slices.Clone(next)
					other[n2] = slices.Insert(slices.Clone(next[n2]), at, n, n)
					if !same(Components(other), comps) || !slices.Equal(Number(other), number) || !same(Above(other), above) {
						t.Errorf("%d is not ignored in %v", n, other)
					}
					hold(t, other)
				}
			}
		}
	}
}

func TestK2FewNodes(t *testing.T) {
	for _, next := range [][][]int{nil, {}} {
		want(t, next, nil, nil)
		if got := Number(next); len(got) > 0 {
			t.Error(got)
		}
	}
	for _, list := range [][]int{nil, {}, {0}, {0, 0, 0}, {1}, {-1}, {1, 0}, strange} {
		want(t, [][]int{list}, [][]int{{0}}, [][]int{nil})
		if got := Number([][]int{list}); !slices.Equal(got, []int{0}) {
			t.Error(got, list)
		}
	}
	want(t, [][]int{nil, nil}, [][]int{{0}, {1}}, [][]int{nil, nil})
	want(t, [][]int{{1}, nil}, [][]int{{1}, {0}}, [][]int{nil, {0}})
	want(t, [][]int{nil, {0}}, [][]int{{0}, {1}}, [][]int{nil, {0}})
	want(t, [][]int{{1}, {0}}, [][]int{{0, 1}}, [][]int{nil})
	want(t, [][]int{{1, 1, 0}, {1}}, [][]int{{1}, {0}}, [][]int{nil, {0}})
}

// TestK2Order: of several components that could come next, the one with the least node does, whichever node a list names first, and however late it could come.
func TestK2Order(t *testing.T) {
	for _, c := range []struct{ next, comps, above [][]int }{
		{[][]int{{}, {}, {}}, [][]int{{0}, {1}, {2}}, [][]int{nil, nil, nil}},
		{[][]int{{3, 2, 1}, {}, {}, {}}, [][]int{{1}, {2}, {3}, {0}}, [][]int{nil, nil, nil, {0, 1, 2}}},
		{[][]int{{}, {}, {}, {2, 0, 1}}, [][]int{{0}, {1}, {2}, {3}}, [][]int{nil, nil, nil, {0, 1, 2}}},
		// As soon as 3 is there, 0 comes, ahead of 4, for which 1 and 2 wait.
		{[][]int{{3}, {4}, {4}, {}, {}}, [][]int{{3}, {0}, {4}, {1}, {2}}, [][]int{nil, {0}, nil, {2}, {2}}},
		// Each waits for the one behind it.
		{[][]int{{1}, {2}, {3}, {}}, [][]int{{3}, {2}, {1}, {0}}, [][]int{nil, {0}, {1}, {2}}},
		// The least node of a component counts, not the one that is met first, nor the greatest.
		{[][]int{{5}, {4}, {}, {}, {1}, {0}}, [][]int{{0, 5}, {1, 4}, {2}, {3}}, [][]int{nil, nil, nil, nil}},
		{[][]int{{}, {6}, {4}, {}, {2}, {}, {1}, {6, 4, 3}}, [][]int{{0}, {1, 6}, {2, 4}, {3}, {5}, {7}}, [][]int{nil, nil, nil, nil, nil, {1, 2, 3}}},
		{[][]int{{9}, {5}, {3}, {2, 6}, {8}, {1, 7}, {}, {}, {}, {}}, [][]int{{6}, {2, 3}, {7}, {1, 5}, {8}, {4}, {9}, {0}}, [][]int{nil, {0}, nil, {2}, nil, {4}, nil, {6}}},
		// 1 comes as soon as 2 is there; 0 waits for 4 too, which comes behind 3.
		{[][]int{{1, 4}, {2}, {}, {}, {}}, [][]int{{2}, {1}, {3}, {4}, {0}}, [][]int{nil, {0}, nil, nil, {1, 3}}},
	} {
		want(t, c.next, c.comps, c.above)
	}
}

// TestK2TwiceInAList: a step that a list holds several times, or that several nodes of a component have, is waited for once all of it is there.
func TestK2TwiceInAList(t *testing.T) {
	want(t, [][]int{{2, 2, 2}, {2}, {}}, [][]int{{2}, {0}, {1}}, [][]int{nil, {0}, {0}})
	want(t, [][]int{{1, 3, 3}, {0, 3, 2}, {3, 3}, {}}, [][]int{{3}, {2}, {0, 1}}, [][]int{nil, {0}, {0, 1}})
	want(t, [][]int{{1, 1}, {2, 2, 0, 0}, {3, 2, 3, 2}, {2}}, [][]int{{2, 3}, {0, 1}}, [][]int{nil, {0}})
}

// TestK2Components: ways that part and meet again, rings that share a node, and rings beside each other.
func TestK2Components(t *testing.T) {
	want(t, [][]int{{1, 2}, {3}, {3}, {0}}, [][]int{{0, 1, 2, 3}}, [][]int{nil})
	want(t, [][]int{{1, 2}, {3}, {3}, {}}, [][]int{{3}, {1}, {2}, {0}}, [][]int{nil, {0}, {0}, {1, 2}})
	want(t, [][]int{{1}, {2}, {0, 3}, {4}, {2}}, [][]int{{0, 1, 2, 3, 4}}, [][]int{nil})
	want(t, [][]int{{1}, {0, 2}, {3}, {2, 4}, {5}, {4}}, [][]int{{4, 5}, {2, 3}, {0, 1}}, [][]int{nil, {0}, {1}})
	want(t, [][]int{{2}, {3}, {4}, {5}, {0}, {1}}, [][]int{{0, 2, 4}, {1, 3, 5}}, [][]int{nil, nil})
	// A step to a component that is whole already joins nothing.
	want(t, [][]int{{1}, {}, {1, 3}, {1, 2}}, [][]int{{1}, {0}, {2, 3}}, [][]int{nil, {0}, {0}})
	want(t, [][]int{{1, 3}, {2}, {1}, {1, 0}}, [][]int{{1, 2}, {0, 3}}, [][]int{nil, {0}})
}

// TestK3Above: each other component once, never itself, in increasing order, and only those that one step leads to.
func TestK3Above(t *testing.T) {
	want(t, [][]int{{1}, {2}, {}}, [][]int{{2}, {1}, {0}}, [][]int{nil, {0}, {1}})
	want(t, [][]int{{0, 1, 0, 1, 1}, {1}}, [][]int{{1}, {0}}, [][]int{nil, {0}})
	want(t, [][]int{{}, {}, {3, 1}, {2, 0, 1}}, [][]int{{0}, {1}, {2, 3}}, [][]int{nil, nil, {0, 1}})
	want(t, [][]int{{}, {}, {}, {4, 2, 0}, {5, 2, 1}, {3, 0}}, [][]int{{0}, {1}, {2}, {3, 4, 5}}, [][]int{nil, nil, nil, {0, 1, 2}})
	want(t, [][]int{{1, 0}, {0, 1}}, [][]int{{0, 1}}, [][]int{nil})
	// Several nodes of the component that it leads to are that component once.
	want(t, [][]int{{2, 1, 3}, {2}, {3}, {1}}, [][]int{{1, 2, 3}, {0}}, [][]int{nil, {0}})
	want(t, [][]int{{2, 3, 5, 4}, {}, {3}, {2}, {5}, {4, 1}}, [][]int{{1}, {2, 3}, {4, 5}, {0}}, [][]int{nil, nil, {0}, {1, 2}})
}

func TestK3Cyclic(t *testing.T) {
	for _, c := range []struct {
		next   [][]int
		cyclic []int
	}{
		{nil, nil},
		{[][]int{{}}, nil},
		{[][]int{{1, -1}}, nil},
		{[][]int{{0}}, []int{0}},
		{[][]int{{1, 0}}, []int{0}},
		{[][]int{{-1, 0, 0}}, []int{0}},
		{sample(), []int{1, 2, 4}},
		// One that leads to a ring, or is led to by one, isn't on it.
		{[][]int{{1}, {1, 2}, {}}, []int{1}},
		{[][]int{{1}, {2}, {3}, {1, 4}, {5}, {}}, []int{1, 2, 3}},
		{[][]int{{1}, {2}, {3}, {0}}, []int{0, 1, 2, 3}},
		{[][]int{{1, 2}, {3}, {3}, {}}, nil},
	} {
		for n := -2; n < len(c.next)+2; n++ {
			if Cyclic(c.next, n) != slices.Contains(c.cyclic, n) {
				t.Error(n, c.next)
			}
		}
		hold(t, c.next)
	}
}

// TestP6 covers P6 of the document: an int has 64 bits, so that what is a node only in 32 of them is none.
func TestP6(t *testing.T) {
	next := [][]int{{1 << 32, 1<<32 + 1, math.MinInt}, {math.MinInt + 1, -1 << 32, 1 << 62}}
	want(t, next, [][]int{{0}, {1}}, [][]int{nil, nil})
	for _, n := range []int{1 << 32, 1<<32 + 1, math.MinInt, math.MinInt + 1, -1 << 32} {
		if Cyclic([][]int{{0}, {0}}, n) || len(Reach([][]int{{0}, {0}}, n)) > 0 {
			t.Error(n)
		}
	}
}
