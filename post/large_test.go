package post

import (
	"math/rand"
	"slices"
	"testing"

	"runnel/flow"
)

// tower is a graph in the making whose passed nodes are known: a node that leads to others that are there already passes what all of these pass, and a way back to one that passes a node changes nothing of what is passed.
type tower struct {
	nodes []flow.Node
	next  []int // by node: its Next
	depth []int
}

func (w *tower) add(n flow.Node, next int) int {
	depth := 1
	if next >= 0 {
		depth += w.depth[next]
	}
	w.nodes, w.next, w.depth = append(w.nodes, n), append(w.next, next), append(w.depth, depth)
	return len(w.nodes) - 1
}

// meet is where the chains of two nodes meet.
func (w *tower) meet(a, b int) int {
	for a != b {
		if a == -1 || b == -1 {
			return -1
		}
		if w.depth[a] >= w.depth[b] {
			a = w.next[a]
		} else {
			b = w.next[b]
		}
	}
	return a
}

// to adds a step that leads to nodes that are there, by its Next and, if so, by its Raise.
func (w *tower) to(raises bool, nodes ...int) int {
	next := nodes[0]
	for _, n := range nodes {
		next = w.meet(next, n)
	}
	if raises {
		return w.add(raising(nodes[0], nodes[1:]...), next)
	}
	return w.add(step(nodes...), next)
}

// back leads from a node that is there to one that passes it.
func (w *tower) back(from, to int) {
	w.nodes[from].Next = append(w.nodes[from].Next, to)
}

func (w *tower) chain(n int) []int {
	var chain []int
	for ; n != -1; n = w.next[n] {
		chain = append(chain, n)
	}
	return chain
}

// hold holds what is answered about some of the nodes, when all have the numbers that they are given.
func (w *tower) hold(t *testing.T, why string, numbers []int, asked []int) {
	t.Helper()
	number := func(n int) int {
		if n == -1 {
			return -1
		}
		return numbers[n]
	}
	renamed := func(list []int) []int {
		out := make([]int, len(list))
		for i, n := range list {
			out[i] = number(n)
		}
		return out
	}
	g := flow.Graph{Nodes: make([]flow.Node, len(w.nodes)), Procs: []int{0}}
	for i, n := range w.nodes {
		g.Nodes[numbers[i]] = flow.Node{Kind: n.Kind, Next: renamed(n.Next), Raise: number(n.Raise)}
	}
	p := made(t, g, 0)
	for i := range w.nodes {
		if p.Next(numbers[i]) != number(w.next[i]) || p.Depth(numbers[i]) != w.depth[i] {
			t.Fatalf("%s: Next of node %d, %d, is %d, not %d, Depth %d, not %d", why, i, numbers[i], p.Next(numbers[i]), number(w.next[i]), p.Depth(numbers[i]), w.depth[i])
		}
	}
	for _, a := range asked {
		chain := w.chain(a)
		if !slices.Equal(p.Chain(numbers[a]), renamed(chain)) {
			t.Fatalf("%s: another Chain of node %d", why, a)
		}
		for _, b := range asked {
			if p.Passes(numbers[a], numbers[b]) != (w.meet(a, b) == b) {
				t.Fatalf("%s: another Passes of the nodes %d and %d", why, a, b)
			}
			if p.Common(numbers[a], numbers[b]) != number(w.meet(a, b)) {
				t.Fatalf("%s: another Common of the nodes %d and %d", why, a, b)
			}
		}
		for _, b := range chain {
			if !p.Passes(numbers[a], numbers[b]) {
				t.Fatalf("%s: node %d doesn't pass node %d of its Chain", why, a, b)
			}
		}
	}
	nodes := p.Nodes()
	if len(nodes) != len(w.nodes) || !slices.IsSorted(nodes) || len(slices.Compact(nodes)) != len(w.nodes) || p.Next(len(nodes)) != -2 || p.Passes(len(nodes), -1) {
		t.Fatalf("%s: not all nodes, or more", why)
	}
}

// holdEach holds a tower with numbers that go up, down, and to and fro.
func (w *tower) holdEach(t *testing.T, why string, r *rand.Rand) {
	t.Helper()
	up := make([]int, len(w.nodes))
	for i := range up {
		up[i] = i
	}
	down := slices.Clone(up)
	slices.Reverse(down)
	asked := []int{0, len(w.nodes) - 1, len(w.nodes) / 2}
	for _, near := range []int{4094, 4095, 4096, 4097, 8191, 8192, len(w.nodes) - 4096, len(w.nodes) - 4097} {
		if near >= 0 && near < len(w.nodes) {
			asked = append(asked, near)
		}
	}
	for range 20 {
		asked = append(asked, r.Intn(len(w.nodes)))
	}
	w.hold(t, why+", up", up, asked)
	w.hold(t, why+", down", down, asked)
	w.hold(t, why+", mixed", r.Perm(len(w.nodes)), asked)
}

// line leads from each node to the one ahead of it.
func line(size int) *tower {
	w := &tower{}
	w.add(exit(), -1)
	for len(w.nodes) < size {
		w.to(false, len(w.nodes)-1)
	}
	return w
}

// TestN2Lines: as many nodes as one bits.Set has room for, one fewer, one more, and many more.
func TestN2Lines(t *testing.T) {
	r := rand.New(rand.NewSource(3))
	for _, size := range []int{1, 2, 63, 64, 65, 4095, 4096, 4097, 8192, 8193} {
		line(size).holdEach(t, "line", r)
	}
}

// TestN2Loops: a line with ways back.
func TestN2Loops(t *testing.T) {
	r := rand.New(rand.NewSource(4))
	w := line(5000)
	for range 3000 {
		from := 1 + r.Intn(4999)
		w.back(from, from+r.Intn(5000-from))
	}
	w.holdEach(t, "loops", r)
}

// TestN2Fans: nodes that all lead to the ends, so that their chains are short.
func TestN2Fans(t *testing.T) {
	r := rand.New(rand.NewSource(5))
	w := &tower{}
	w.add(exit(), -1)
	w.add(fail(), -1)
	for range 2500 {
		w.to(false, 0)
		w.to(true, 0, len(w.nodes)-1)
	}
	w.holdEach(t, "fan", r)
}

// TestN2Arms: ways that part and meet again, one behind the other.
func TestN2Arms(t *testing.T) {
	r := rand.New(rand.NewSource(6))
	w := &tower{}
	meet := w.add(fail(), -1)
	for len(w.nodes) < 5200 {
		left, right := w.to(false, meet), w.to(false, meet)
		for range r.Intn(3) {
			right = w.to(r.Intn(2) == 0, right)
		}
		meet = w.to(r.Intn(2) == 0, left, right)
	}
	w.holdEach(t, "arms", r)
}

// TestN2LargeGraphs: nodes that lead to any that there are, near ones and far ones, and back from them.
func TestN2LargeGraphs(t *testing.T) {
	r := rand.New(rand.NewSource(7))
	for _, size := range []int{300, 900, 4090, 4100, 4600} {
		w := &tower{}
		w.add(exit(), -1)
		w.add(fail(), -1)
		for len(w.nodes) < size {
			near := func() int { return len(w.nodes) - 1 - r.Intn(min(len(w.nodes), 12)) }
			var to []int
			for range 1 + r.Intn(2) {
				to = append(to, near())
			}
			if r.Intn(1000) == 0 {
				to = append(to, r.Intn(len(w.nodes)))
			}
			n := w.to(r.Intn(4) == 0, to...)
			if chain := w.chain(n); r.Intn(3) == 0 {
				if k := chain[r.Intn(len(chain))]; w.nodes[k].Kind == flow.Step {
					w.back(k, n)
				}
			}
		}
		w.holdEach(t, "large", r)
	}
}

// TestWaysUntilNothingChanges: along a line that may be left at both ends, and gone both ways, each round tells of no more than one other node that it is not passed.
func TestWaysUntilNothingChanges(t *testing.T) {
	for _, size := range []int{3, 4, 5, 8, 40, 300} {
		for _, turned := range []bool{false, true} {
			nodes := []flow.Node{exit()}
			for i := range size {
				nodes = append(nodes, step(i, (i+2)%(size+1)))
			}
			if turned {
				slices.Reverse(nodes)
				for i := range nodes {
					for j := range nodes[i].Next {
						nodes[i].Next[j] = size - nodes[i].Next[j]
					}
				}
			}
			p := made(t, graph(nodes...), 0)
			end := slices.IndexFunc(nodes, func(n flow.Node) bool { return n.Kind == flow.Exit })
			for n := range nodes {
				if n != end && !slices.Equal(p.Chain(n), []int{n, end}) {
					t.Fatal(size, n, p.Chain(n))
				}
			}
		}
	}
}
