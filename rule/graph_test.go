package rule

import (
	"math"
	"math/rand"
	"slices"
	"testing"

	"runnel/flow"
)

// The nodes of graphs made by hand.

func node(kind int, next ...int) flow.Node { return flow.Node{Kind: kind, Next: next, Raise: -1} }

func step(next ...int) flow.Node { return node(flow.Step, next...) }

func entry(next ...int) flow.Node { return node(flow.Entry, next...) }

func exit(next ...int) flow.Node { return node(flow.Exit, next...) }

func fail(next ...int) flow.Node { return node(flow.Fail, next...) }

// raises is a node that has a Raise too.
func raises(n flow.Node, to int) flow.Node {
	n.Raise = to
	return n
}

// in is a node as one of a procedure.
func in(proc int, n flow.Node) flow.Node {
	n.Proc = proc
	return n
}

// graph has as many procedures as its nodes need, but one at least.
func graph(nodes ...flow.Node) flow.Graph {
	procs := 1
	for _, n := range nodes {
		procs = max(procs, n.Proc+1)
	}
	return flow.Graph{Nodes: nodes, Procs: make([]int, procs)}
}

// wantGraph wants just these edges of a graph.
func wantGraph(t *testing.T, g flow.Graph, want ...Edge) {
	t.Helper()
	if got := hold(t, g, 0).Edges(); !slices.Equal(got, want) {
		t.Errorf("%v, not %v, of %v", got, want, g)
	}
}

// TestW1Branches: each branch has its own edges.
func TestW1Branches(t *testing.T) {
	// Both Next are the same node: it comes next in any case, so that neither controls anything.
	wantGraph(t, graph(entry(3), exit(), fail(), step(4, 4), step(1)), Edge{0, 0, 1}, Edge{0, 0, 3}, Edge{0, 0, 4})
	// Two of three are.
	wantGraph(t, graph(entry(3), exit(), fail(), step(4, 1, 4), step(1)), Edge{0, 0, 1}, Edge{0, 0, 3}, Edge{3, 0, 4}, Edge{3, 2, 4})
	// A Raise is the last one, also among the Next.
	wantGraph(t, graph(entry(3), exit(), fail(), raises(step(1), 4), step(1)), Edge{0, 0, 1}, Edge{0, 0, 3}, Edge{3, 1, 4})
	wantGraph(t, graph(entry(3), exit(), fail(), raises(step(4, 1), 4), step(1)), Edge{0, 0, 1}, Edge{0, 0, 3}, Edge{3, 0, 4}, Edge{3, 2, 4})
	wantGraph(t, graph(entry(3), exit(), fail(), raises(step(4), 4), step(1)), Edge{0, 0, 1}, Edge{0, 0, 3}, Edge{0, 0, 4})
	wantGraph(t, graph(entry(3), exit(), fail(), raises(step(), 4), step(1)), Edge{0, 0, 1}, Edge{0, 0, 3}, Edge{0, 0, 4})
	// By branches that both lead to it, a node controls itself twice.
	wantGraph(t, graph(entry(3), exit(), fail(), raises(step(3, 1), 3)), Edge{0, 0, 1}, Edge{0, 0, 3}, Edge{3, 0, 3}, Edge{3, 2, 3})
	// A node whose number is 0 is a Raise like another one.
	wantGraph(t, graph(exit(), entry(2), raises(step(3), 0), step(0)), Edge{1, 0, 0}, Edge{1, 0, 2}, Edge{2, 0, 3})
}

// TestW1Entry: an Entry controls what its branches pass, and nothing by the one to the End.
func TestW1Entry(t *testing.T) {
	wantGraph(t, graph(entry(1), exit()), Edge{0, 0, 1})
	wantGraph(t, graph(entry(3), exit(), fail(), step(4), step(1)), Edge{0, 0, 1}, Edge{0, 0, 3}, Edge{0, 0, 4})
	// With several branches, what comes next in any case is controlled by each of them.
	wantGraph(t, graph(raises(entry(3, 1), 3), exit(), fail(), step(1)), Edge{0, 0, 1}, Edge{0, 0, 3}, Edge{0, 1, 1}, Edge{0, 2, 1}, Edge{0, 2, 3})
	// Where the way goes on through an Entry, what is behind that is passed, so the Entry itself is controlled too.
	wantGraph(t, graph(entry(2), exit(), step(0, 1)), Edge{0, 0, 1}, Edge{0, 0, 2}, Edge{2, 0, 0})
	// A branch to an Entry: that passes only itself.
	wantGraph(t, graph(entry(0, 1), exit()), Edge{0, 0, 0}, Edge{0, 1, 1})
	wantGraph(t, graph(step(1), entry(2), step(3), exit()), Edge{1, 0, 2}, Edge{1, 0, 3})
	wantGraph(t, graph(entry(1), entry(2), exit()), Edge{0, 0, 1}, Edge{1, 0, 2})
	wantGraph(t, graph(step(1, 2), entry(2), exit()), Edge{0, 0, 1}, Edge{1, 0, 2})
	wantGraph(t, graph(entry(1), step(2), entry(3), exit()), Edge{0, 0, 1}, Edge{0, 0, 2}, Edge{0, 0, 3}, Edge{2, 0, 3})
}

// TestW1Ends: an Exit or a Fail that leads on passes only itself and the End.
func TestW1Ends(t *testing.T) {
	wantGraph(t, graph(entry(1), exit(2), step(1)), Edge{0, 0, 1}, Edge{1, 0, 1}, Edge{1, 0, 2})
	wantGraph(t, graph(entry(1), exit(1)), Edge{0, 0, 1}, Edge{1, 0, 1})
	wantGraph(t, graph(entry(1), raises(fail(), 2), exit()), Edge{0, 0, 1}, Edge{1, 0, 2})
	wantGraph(t, graph(step(1), exit()))
}

// TestW1OtherGraphs: what New refuses, and for which procedures, is what post.New refuses.
func TestW1OtherGraphs(t *testing.T) {
	for _, g := range []flow.Graph{
		{},
		{Procs: []int{}},
		{Nodes: []flow.Node{exit()}},
		graph(entry(1)),
		graph(entry(0)),
		graph(entry(-1), exit()),
		graph(entry(2), exit()),
		graph(entry(1, math.MaxInt), exit()),
		graph(entry(1, math.MinInt), exit()),
		graph(raises(entry(1), -2), exit()),
		graph(raises(entry(1), 2), exit()),
		graph(entry(1), exit(), step(2)),
		graph(entry(1), exit(), step()),
		graph(entry(1), exit(), in(1, step(1))),
		graph(entry(1), exit(), in(1, exit()), in(1, entry())),
		graph(entry(1, 2), exit(), in(1, exit())),
	} {
		refused(t, g, 0)
		refused(t, g, len(g.Procs))
		refused(t, g, -1)
	}
	// Procedures without nodes, and such as lie in one another.
	for _, g := range []flow.Graph{{Procs: []int{3}}, graph(in(1, exit())), graph(in(1, step(3)), exit(), in(2, step(5, 7)), in(1, fail()), step(1), in(2, step(7, 2)), entry(4), in(2, exit()))} {
		for proc := range g.Procs {
			hold(t, g, proc)
		}
	}
}

// choices are all nodes of a kind that lead to some of so many nodes, with each of these Raises.
func choices(size int, kinds, raise []int) []flow.Node {
	var list []flow.Node
	for _, kind := range kinds {
		for _, to := range raise {
			for some := range 1 << size {
				n := raises(node(kind), to)
				for k := range size {
					if some&(1<<k) != 0 {
						n.Next = append(n.Next, k)
					}
				}
				list = append(list, n)
			}
		}
	}
	return list
}

// TestW1SmallGraphs: each graph of up to two nodes, and of three without a Raise that are no Fail.
func TestW1SmallGraphs(t *testing.T) {
	held, all := 0, 0
	var each func(nodes []flow.Node, more int, from []flow.Node)
	each = func(nodes []flow.Node, more int, from []flow.Node) {
		if more == 0 {
			all++
			if holdOrRefuse(t, graph(slices.Clone(nodes)...), 0) {
				held++
			}
			return
		}
		for _, n := range from {
			each(append(nodes, n), more-1, from)
		}
	}
	kinds := []int{flow.Step, flow.Entry, flow.Exit, flow.Fail}
	each(nil, 1, choices(1, kinds, []int{-2, -1, 0, 1}))
	each(nil, 2, choices(2, kinds, []int{-1, 0, 1, 2}))
	each(nil, 3, choices(3, kinds[:3], []int{-1}))
	if held < 7000 || all-held < 7000 {
		t.Error(held, all)
	}
}

// random is a graph of so many nodes and procedures, of which each leads to few others of its own, most of them near, and now and then to what is none.
func random(r *rand.Rand, size, procs int) flow.Graph {
	g := flow.Graph{Nodes: make([]flow.Node, size), Procs: make([]int, procs)}
	lists := make([][]int, procs)
	for i := range g.Nodes {
		proc := r.Intn(procs)
		g.Nodes[i] = in(proc, step())
		lists[proc] = append(lists[proc], i)
	}
	for _, list := range lists {
		for at, n := range list {
			fill(r, &g.Nodes[n], list, at)
			if r.Intn(300) == 0 {
				g.Nodes[n].Raise = r.Intn(size+4) - 2
			}
		}
	}
	return g
}

func fill(r *rand.Rand, n *flow.Node, list []int, at int) {
	near := func() int { return list[max(0, min(len(list)-1, at-3+r.Intn(6)))] }
	switch {
	case at == 0 || r.Intn(9) == 0:
		n.Kind = flow.Exit + r.Intn(2)
		return
	case at == len(list)-1 || r.Intn(9) == 0:
		n.Kind = flow.Entry
	}
	n.Next = append(n.Next, list[r.Intn(at)]) // so that an end is reached
	for range r.Intn(3) {
		n.Next = append(n.Next, near())
	}
	if r.Intn(4) == 0 {
		n.Raise = near()
	}
	r.Shuffle(len(n.Next), func(i, j int) { n.Next[i], n.Next[j] = n.Next[j], n.Next[i] })
}

// TestW1RandomGraphs: graphs that no program has.
func TestW1RandomGraphs(t *testing.T) {
	r := rand.New(rand.NewSource(12))
	held, self, twice, far := 0, 0, 0, 0
	for i := range 3000 {
		g := random(r, r.Intn(12)+i%17, 1+r.Intn(3))
		for proc := range g.Procs {
			if !holdOrRefuse(t, g, proc) {
				continue
			}
			held++
			rule := accepted(t, g, proc)
			for _, e := range rule.Edges() {
				if e.From == e.To {
					self++
				}
				if len(rule.On(e.To)) < len(rule.All(e.To)) {
					far++
				}
			}
			if len(rule.Edges()) > edgesOver(g, rule) {
				twice++
			}
		}
	}
	if held < 3000 || self < 1000 || far < 5000 || twice < 500 {
		t.Error("too little is seen", held, self, far, twice)
	}
}

// edgesOver is how many pairs of nodes there are of which one controls the other.
func edgesOver(g flow.Graph, r *Rule) int {
	count := 0
	for n := range g.Nodes {
		count += len(r.Over(n))
	}
	return count
}

// TestW1RandomPrograms: programs of all sorts, each procedure of them.
func TestW1RandomPrograms(t *testing.T) {
	m := maker{rand.New(rand.NewSource(13))}
	held, loops, raised, unreached, reached := 0, 0, 0, 0, 0
	for i := range 400 {
		_, g := program(t, m.program(i%4, 1+i%3))
		if len(g.Nodes) > 90 {
			continue
		}
		for proc := range g.Procs {
			r := hold(t, g, proc)
			held++
			nodes := g.Reach(g.Entry(proc))
			for _, e := range r.Edges() {
				if e.From == e.To {
					loops++
				}
				if n := g.Nodes[e.From]; e.Way == len(n.Next) && n.Raise >= 0 {
					raised++
				}
				if !slices.Contains(nodes, e.From) {
					unreached++
				}
			}
			if len(nodes) == len(g.Nodes) {
				reached++
			}
		}
	}
	if held < 500 || loops < 100 || raised < 500 || unreached < 100 || reached < 5 {
		t.Error("too little is seen", held, loops, raised, unreached, reached)
	}
}

// TestW1LargeGraphs: a long line, forwards and backwards, all of it controlled by the Entry, with a loop at each step; nodes of another procedure lie ahead and between.
func TestW1LargeGraphs(t *testing.T) {
	for _, size := range []int{63, 64, 65, 4095, 4096, 4097, 4600} {
		for _, turned := range []bool{false, true} {
			nodes := []flow.Node{in(1, exit()), exit()}
			for i := 2; i < size; i++ {
				nodes = append(nodes, step(i, i-1))
			}
			nodes = append(nodes, in(1, entry(0)), entry(size-1))
			if turned {
				turn(nodes)
			}
			holdLarge(t, graph(nodes...), size, turned)
		}
	}
}

// turn gives nodes their numbers from the other end on.
func turn(nodes []flow.Node) {
	slices.Reverse(nodes)
	for _, n := range nodes {
		for i := range n.Next {
			n.Next[i] = len(nodes) - 1 - n.Next[i]
		}
	}
}

func holdLarge(t *testing.T, g flow.Graph, size int, turned bool) {
	t.Helper()
	number := func(n int) int {
		if turned {
			return len(g.Nodes) - 1 - n
		}
		return n
	}
	r := accepted(t, g, 0)
	from := number(size + 1)
	over := r.Over(from)
	if len(over) != size-1 || !slices.IsSorted(over) || r.Free(number(1)) || !r.Free(from) || len(r.Over(number(1))) != 0 || len(r.On(number(0))) != 0 || r.Free(number(size)) {
		t.Fatal(size, turned, len(over))
	}
	if want := 2*(size-2) + 1; len(r.Edges()) != want {
		t.Fatal(size, turned, len(r.Edges()), want)
	}
	for i := 2; i < size; i++ {
		want := []int{number(i), from}
		slices.Sort(want)
		if n := number(i); !slices.Equal(r.Over(n), []int{n}) || !slices.Equal(r.On(n), want) || !slices.Equal(r.All(n), want) {
			t.Fatal(size, turned, i, r.Over(n), r.On(n), r.All(n))
		}
	}
}

// TestW2LongRings: nodes that control each other, one behind the other, so that All of each is all.
func TestW2LongRings(t *testing.T) {
	const size = 3000
	nodes := []flow.Node{exit()}
	for i := 1; i <= size; i++ {
		nodes = append(nodes, step(1+i%size, 0))
	}
	nodes[size].Next[1] = size + 1 // so that they pass neither end
	nodes = append(nodes, fail(), entry(1))
	r := accepted(t, graph(nodes...), 0)
	var want []int
	for n := 1; n <= size; n++ {
		want = append(want, n)
	}
	want = append(want, size+2)
	for _, m := range []int{0, 1, 2, size / 2, size, size + 1} {
		if got := r.All(m); !slices.Equal(got, want) {
			t.Fatal(m, len(got))
		}
	}
	if !slices.Equal(r.On(1), []int{size, size + 2}) || !slices.Equal(r.On(2), []int{1}) || len(r.On(0)) != size-1 || len(r.All(size+2)) != 0 {
		t.Error(r.On(1), r.On(2), len(r.On(0)), r.All(size+2))
	}
}
