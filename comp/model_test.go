package comp

import (
	"math"
	"slices"
	"testing"
)

// model is what there is to say of a graph, by the words of the definitions.
type model struct {
	size  int
	steps [][]bool // whether there is a way of one step
	ways  [][]bool // whether there is a way of at least one step
	comps [][]int  // the components in their order
}

// strange are numbers that are nodes of no graph here.
var strange = []int{math.MinInt, math.MinInt + 1, -1 << 32, -4096, -2, -1, 1 << 31, 1 << 32, 1<<32 + 1, math.MaxInt - 1, math.MaxInt}

func modelOf(next [][]int) model {
	m := model{size: len(next), steps: square(len(next)), ways: square(len(next))}
	for a := range m.size {
		for b := range m.size {
			m.steps[a][b] = slices.Contains(next[a], b)
			m.ways[a][b] = m.steps[a][b]
		}
	}
	for over := range m.size {
		for a := range m.size {
			for b := range m.size {
				m.ways[a][b] = m.ways[a][b] || m.ways[a][over] && m.ways[over][b]
			}
		}
	}
	m.comps = m.ordered()
	return m
}

func square(size int) [][]bool {
	rows := make([][]bool, size)
	for i := range rows {
		rows[i] = make([]bool, size)
	}
	return rows
}

func (m model) isNode(n int) bool { return 0 <= n && n < m.size }

func (m model) reaches(a, b int) bool { return m.isNode(a) && m.isNode(b) && (a == b || m.ways[a][b]) }

func (m model) connected(a, b int) bool { return m.reaches(a, b) && m.reaches(b, a) }

func (m model) reach(from int) []int {
	var nodes []int
	for n := range m.size {
		if m.reaches(from, n) {
			nodes = append(nodes, n)
		}
	}
	return nodes
}

func (m model) component(n int) []int {
	var nodes []int
	for k := range m.size {
		if m.connected(n, k) {
			nodes = append(nodes, k)
		}
	}
	return nodes
}

// ordered is the components, one after the other, as K2 has it.
func (m model) ordered() [][]int {
	var remain, order [][]int
	for n := range m.size {
		if c := m.component(n); c[0] == n {
			remain = append(remain, c)
		}
	}
	for len(remain) > 0 {
		next := -1
		for i, c := range remain {
			if m.reachesNone(c, remain) && (next < 0 || c[0] < remain[next][0]) {
				next = i
			}
		}
		order = append(order, remain[next])
		remain = slices.Delete(remain, next, next+1)
	}
	return order
}

// reachesNone tells whether a component reaches none of these but itself.
func (m model) reachesNone(c []int, others [][]int) bool {
	for _, other := range others {
		if other[0] != c[0] && m.reaches(c[0], other[0]) {
			return false
		}
	}
	return true
}

func (m model) number() []int {
	var list []int
	for n := range m.size {
		list = append(list, slices.IndexFunc(m.comps, func(c []int) bool { return slices.Contains(c, n) }))
	}
	return list
}

func (m model) above() [][]int {
	var lists [][]int
	for _, c := range m.comps {
		var list []int
		for i, other := range m.comps {
			if other[0] != c[0] && m.leads(c, other) {
				list = append(list, i)
			}
		}
		lists = append(lists, list)
	}
	return lists
}

func (m model) leads(from, to []int) bool {
	for _, a := range from {
		for _, b := range to {
			if m.steps[a][b] {
				return true
			}
		}
	}
	return false
}

func same(a, b [][]int) bool { return slices.EqualFunc(a, b, slices.Equal) }

// hold holds all answers about a graph against the model, those of numbers that are no nodes too.
func hold(t *testing.T, next [][]int) model {
	t.Helper()
	m := modelOf(next)
	if got := Components(next); !same(got, m.comps) {
		t.Fatalf("Components: %v, not %v, of %v", got, m.comps, next)
	}
	if got, want := Number(next), m.number(); !slices.Equal(got, want) {
		t.Fatalf("Number: %v, not %v, of %v", got, want, next)
	}
	if got, want := Above(next), m.above(); !same(got, want) {
		t.Fatalf("Above: %v, not %v, of %v", got, want, next)
	}
	for a := -2; a < m.size+2; a++ {
		if got, want := Reach(next, a), m.reach(a); !slices.Equal(got, want) {
			t.Fatalf("Reach of %d: %v, not %v, of %v", a, got, want, next)
		}
		if got, want := Cyclic(next, a), m.isNode(a) && m.ways[a][a]; got != want {
			t.Fatalf("Cyclic of %d: %v, of %v", a, got, next)
		}
		for b := -2; b < m.size+2; b++ {
			if got, want := Both(next, a, b), m.connected(a, b); got != want {
				t.Fatalf("Both of %d and %d: %v, of %v", a, b, got, next)
			}
		}
	}
	holdK4(t, next)
	return m
}

// holdK4 holds what follows, whatever the model says.
func holdK4(t *testing.T, next [][]int) {
	t.Helper()
	comps, number, above := Components(next), Number(next), Above(next)
	if len(number) != len(next) || len(above) != len(comps) {
		t.Fatalf("%d numbers and %d of Above, of %d nodes and %d components", len(number), len(above), len(next), len(comps))
	}
	in := make([]int, len(next))
	for c, nodes := range comps {
		for i, n := range nodes {
			in[n]++
			if number[n] != c || i > 0 && nodes[i-1] >= n {
				t.Fatalf("node %d, of number %d, in component %d, %v", n, number[n], c, nodes)
			}
		}
		if len(nodes) == 0 || len(nodes) > 1 && !Cyclic(next, nodes[0]) {
			t.Fatalf("component %d, %v, isn't cyclic", c, nodes)
		}
		for i, other := range above[c] {
			if other < 0 || other >= c || i > 0 && above[c][i-1] >= other {
				t.Fatalf("Above of component %d: %v", c, above[c])
			}
		}
	}
	for n, times := range in {
		if times != 1 {
			t.Fatalf("node %d is in %d components", n, times)
		}
	}
}
