package post

import (
	"math"
	"slices"
	"sync"
	"testing"

	"runnel/api"
	"runnel/flow"
)

// saying is what all calls say of a procedure of a graph.
type saying struct {
	errno   api.Errno
	isThere bool
	lists   [][]int
	passes  []bool
}

func (s saying) same(other saying) bool {
	return s.errno == other.errno && s.isThere == other.isThere && slices.EqualFunc(s.lists, other.lists, slices.Equal) && slices.Equal(s.passes, other.passes)
}

func said(g flow.Graph, proc int) saying {
	p, e := New(g, proc)
	if p == nil {
		return saying{errno: e}
	}
	s := asked(p, len(g.Nodes))
	s.errno = e
	return s
}

// asked is what an object says of so many numbers and some around them.
func asked(p *Post, size int) saying {
	s := saying{isThere: true, lists: [][]int{p.Nodes()}}
	for a := -3; a < size+3; a++ {
		numbers := []int{p.Next(a), p.Depth(a)}
		for b := -3; b < size+3; b++ {
			numbers = append(numbers, p.Common(a, b))
			s.passes = append(s.passes, p.Passes(a, b))
		}
		s.lists = append(s.lists, p.Chain(a), numbers)
	}
	return s
}

const sampleText = "proc f(x int) int { while x < 5 { x = x + 1; } return x; } " + mainHead +
	"x = in lo; if x < 1 { out lo 1; } else { while b { x = x / 2; a[x] = 1; } } try { throw x; } catch y { return; } call f(1); a = new 2; }"

// samples are graphs of all sorts, such as are accepted and such as are not.
func samples(t *testing.T) []flow.Graph {
	t.Helper()
	_, g := parsed(t, sampleText)
	out := []flow.Graph{{}, {Procs: []int{1}}, g, graph(exit()), graph(step(1), step(0)), graph(step(2), exit()), graph(step(1), of(1, exit())), graph(step(1), exit(), of(1, step(3)), of(1, last(flow.Fail, 2)))}
	r := newGrow(31)
	for i := range 12 {
		_, g := parsed(t, r.program(i%3, 1+i%2))
		out = append(out, g, r.random(r.Intn(12), 1+i%3))
	}
	return out
}

// TestSameAnswers covers P4 of the document: the same calls answer the same, whatever was asked in between and beside them.
func TestSameAnswers(t *testing.T) {
	graphs := samples(t)
	var first []saying
	for _, g := range graphs {
		for proc := range 3 {
			s := said(g, proc)
			if !said(g, proc).same(s) || !said(copied(g), proc).same(s) {
				t.Error("another answer", g, proc)
			}
			if p, e := New(g, proc); e == api.OK && !asked(p, len(g.Nodes)).same(asked(p, len(g.Nodes))) {
				t.Error("the same object answers something else", g, proc)
			}
			first = append(first, s)
		}
	}
	for i, g := range slices.Backward(graphs) {
		for proc := range 3 {
			if !said(g, proc).same(first[3*i+proc]) {
				t.Error("another answer behind others", g, proc)
			}
		}
	}
	again := make([]saying, len(first))
	shared := made(t, graphs[2], 1)
	want := asked(shared, len(graphs[2].Nodes))
	var wait sync.WaitGroup
	for i, g := range graphs {
		wait.Go(func() {
			for proc := range 3 {
				again[3*i+proc] = said(g, proc)
			}
			if !asked(shared, len(graphs[2].Nodes)).same(want) {
				t.Error("another answer of one object beside others")
			}
		})
	}
	wait.Wait()
	for i := range first {
		if !again[i].same(first[i]) {
			t.Error("another answer beside others", i)
		}
	}
}

// TestArgumentsStay covers P3 of the document: nothing of a graph is changed, within its lists or beyond them, and nothing beyond is read.
func TestArgumentsStay(t *testing.T) {
	for _, g := range samples(t) {
		for proc := range 3 {
			want := said(g, proc)
			long := copied(g)
			for i := range long.Nodes {
				next := append(long.Nodes[i].Next, math.MinInt, 0, math.MaxInt)
				long.Nodes[i].Next = next[:len(next)-3]
			}
			long.Nodes = append(long.Nodes, step(0), of(1, exit()), last(9))[:len(g.Nodes)]
			long.Procs = append(long.Procs, 0, 0, 0)[:len(g.Procs)]
			whole := flow.Graph{Nodes: long.Nodes[:len(g.Nodes)+3], Procs: long.Procs[:len(g.Procs)+3]}
			before := copied(whole)
			if got := said(long, proc); !got.same(want) {
				t.Fatalf("%v, not %v, of %v", got, want, g)
			}
			if !equalGraphs(whole, before) {
				t.Fatal("a graph is changed", whole, before)
			}
			for i, n := range long.Nodes {
				if rest := n.Next[len(n.Next) : len(n.Next)+3]; !slices.Equal(rest, []int{math.MinInt, 0, math.MaxInt}) {
					t.Error("a list is changed beyond its end", i, rest)
				}
			}
		}
	}
	// What is beyond the nodes is no node, even if all would be well with it, and what is beyond Procs no procedure.
	nodes := []flow.Node{step(1), exit(), of(1, exit())}
	wantRefused(t, flow.Graph{Nodes: nodes[:1], Procs: []int{0}}, 0)
	wantRefused(t, flow.Graph{Nodes: nodes, Procs: []int{0, 0}[:1]}, 1)
}

// TestAnswersAreNew covers P3 of the document: a caller may change what was answered, as far as it goes.
func TestAnswersAreNew(t *testing.T) {
	_, g := parsed(t, sampleText)
	before := copied(g)
	p := made(t, g, 1)
	want := asked(p, len(g.Nodes))
	for _, n := range p.Nodes() {
		for _, list := range [][]int{p.Nodes(), p.Chain(n)} {
			list = list[:cap(list)]
			for i := range list {
				list[i] = -7
			}
		}
		if !asked(p, len(g.Nodes)).same(want) {
			t.Fatal("an answer is a part of the object", n)
		}
	}
	if !equalGraphs(g, before) {
		t.Error("an answer is a part of the graph")
	}
	// And two answers share nothing.
	one, other := p.Chain(g.Entry(1)), p.Chain(g.Entry(1))
	copied := slices.Clone(one)
	for i := range other {
		other[i] = -7
	}
	if !slices.Equal(one, copied) {
		t.Error("two answers share their memory")
	}
}

// TestNothingIsKept covers P3 and P4 of the document: a graph that has changed since changes no answer, and is read anew.
func TestNothingIsKept(t *testing.T) {
	for _, g := range samples(t) {
		for proc := range 3 {
			p, e := New(g, proc)
			if e != api.OK {
				continue
			}
			want := asked(p, len(g.Nodes))
			changed := copied(g)
			kept := made(t, changed, proc)
			for i := range changed.Nodes {
				for j := range changed.Nodes[i].Next {
					changed.Nodes[i].Next[j] = math.MinInt
				}
				changed.Nodes[i] = flow.Node{Proc: 99, Raise: 99}
			}
			for i := range changed.Procs {
				changed.Procs[i] = -1
			}
			if !asked(kept, len(g.Nodes)).same(want) {
				t.Error("an object changes with its graph", g, proc)
			}
			if len(changed.Nodes) > 0 {
				wantRefused(t, changed, proc)
			}
		}
	}
	g := graph(step(1, 2), step(3), step(3), exit())
	one := made(t, g, 0)
	g.Nodes[0].Next = []int{1}
	if other := made(t, g, 0); one.Next(0) != 3 || other.Next(0) != 1 {
		t.Error(one.Next(0), other.Next(0))
	}
}

// TestErrorsWithoutAnAnswer covers P2 of the document: beside an error there is no object, and else there is one.
func TestErrorsWithoutAnAnswer(t *testing.T) {
	refused, accepted := 0, 0
	for _, g := range samples(t) {
		for proc := -1; proc < 4; proc++ {
			p, e := New(g, proc)
			if (p == nil) != (e == api.ErrArg) || (p != nil) != (e == api.OK) {
				t.Error(p, e)
			}
			if p == nil {
				refused++
			} else {
				accepted++
			}
		}
	}
	if refused < 20 || accepted < 20 {
		t.Error(refused, accepted)
	}
}

// nonsense are numbers of all sorts.
func (g *grow) nonsense(size int) int {
	switch g.Intn(8) {
	case 0:
		return []int{math.MinInt, math.MaxInt, -1, -2, 4095, 4096, 1 << 32}[g.Intn(7)]
	case 1:
		return int(g.Uint64())
	}
	return g.Intn(size+3) - 1
}

// TestTotality covers P1 of the document: all calls return, for graphs and objects that nobody should make, and for all numbers.
func TestTotality(t *testing.T) {
	r := newGrow(41)
	accepted := 0
	for range 20000 {
		size := r.Intn(5)
		g := flow.Graph{Procs: make([]int, r.Intn(4))}
		for range size {
			n := flow.Node{Kind: r.Intn(5), At: r.nonsense(size), Proc: r.Intn(3) - r.Intn(2), Raise: r.nonsense(size)}
			if r.Intn(2) == 0 {
				n.Proc, n.Kind = 0, flow.Exit
			}
			if r.Intn(9) == 0 {
				n.Proc, n.Kind = r.nonsense(size), r.nonsense(size)
			}
			for range r.Intn(3) {
				n.Next = append(n.Next, r.nonsense(size))
			}
			g.Nodes = append(g.Nodes, n)
		}
		proc := r.nonsense(len(g.Procs))
		if holdOrRefuse(t, g, proc) {
			accepted++
		}
		if p, e := New(g, proc); e == api.OK {
			a, b := r.nonsense(size), r.nonsense(size)
			p.Passes(a, b)
			p.Common(a, b)
			p.Chain(a)
			if p.Next(a) < -2 || p.Depth(a) < 0 {
				t.Error(p.Next(a), p.Depth(a))
			}
		}
	}
	if accepted < 1000 {
		t.Error(accepted)
	}
}

// TestZeroObject: one that New didn't make has no nodes.
func TestZeroObject(t *testing.T) {
	var p Post
	if len(p.Nodes()) != 0 || !p.Passes(-1, -1) {
		t.Error(p.Nodes(), p.Passes(-1, -1))
	}
	for _, n := range []int{math.MinInt, -2, -1, 0, 1, 4095, 4096, math.MaxInt} {
		if p.Next(n) != -2 || len(p.Chain(n)) != 0 || p.Depth(n) != 0 || p.Common(n, n) != -1 || p.Common(n, -1) != -1 || n != -1 && p.Passes(n, n) || p.Passes(n, 0) || n != -1 && p.Passes(n, -1) {
			t.Error(n)
		}
	}
}

// TestWhatDoesNotMatter: the places of a tree that a graph tells, the order of a Next, whether a node is there twice, and whether an empty list is nil.
func TestWhatDoesNotMatter(t *testing.T) {
	r := newGrow(51)
	for _, g := range samples(t) {
		for proc := range 3 {
			want := said(g, proc)
			other := copied(g)
			for i := range other.Nodes {
				n := &other.Nodes[i]
				n.At = r.nonsense(9)
				n.Next = append(n.Next, n.Next...)
				r.Shuffle(len(n.Next), func(i, j int) { n.Next[i], n.Next[j] = n.Next[j], n.Next[i] })
				if n.Next == nil {
					n.Next = []int{}
				}
				if n.Raise >= 0 && r.Intn(2) == 0 {
					n.Next = append(n.Next, n.Raise)
				}
			}
			for i := range other.Procs {
				other.Procs[i] = r.nonsense(9)
			}
			if got := said(other, proc); !got.same(want) {
				t.Fatalf("%v, not %v, of %v", got, want, other)
			}
		}
	}
}

// TestEveryWayLeads: that a Raise is a way like any other, and no Kind but those of the ends matters.
func TestEveryWayLeads(t *testing.T) {
	for _, g := range samples(t) {
		for proc := range 3 {
			want := said(g, proc)
			other := copied(g)
			for i := range other.Nodes {
				n := &other.Nodes[i]
				if n.Raise != -1 {
					n.Next, n.Raise = append(n.Next, n.Raise), -1
				} else if len(n.Next) > 0 && n.Next[0] != -1 {
					n.Raise, n.Next = n.Next[0], n.Next[1:]
				}
				switch n.Kind {
				case flow.Exit:
					n.Kind = flow.Fail
				case flow.Fail:
					n.Kind = flow.Exit
				default:
					n.Kind = []int{flow.Step, flow.Entry, 0, 5, -1, math.MaxInt}[i%6]
				}
			}
			if got := said(other, proc); !got.same(want) {
				t.Fatalf("%v, not %v, of %v", got, want, other)
			}
		}
	}
}
