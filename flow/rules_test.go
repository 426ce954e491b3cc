package flow

import (
	"math"
	"slices"
	"sync"
	"testing"

	"runnel/api"
)

// saying is what all calls say of a tree.
type saying struct {
	graph  Graph
	errno  api.Errno
	raises []bool
	ends   []int
	ways   [][]int
}

func (s saying) same(other saying) bool {
	return s.errno == other.errno && equalGraphs(s.graph, other.graph) && slices.Equal(s.raises, other.raises) && slices.Equal(s.ends, other.ends) && slices.EqualFunc(s.ways, other.ways, slices.Equal)
}

func said(x api.Tree) saying {
	var s saying
	s.graph, s.errno = Build(x)
	for place := -1; place <= len(x.Nodes); place++ {
		s.raises = append(s.raises, Raises(x, place))
		s.ends = append(s.ends, s.graph.Of(place))
	}
	for proc := -1; proc <= len(s.graph.Procs); proc++ {
		s.ends = append(s.ends, s.graph.Entry(proc), s.graph.Exit(proc), s.graph.Fail(proc))
	}
	for n := -1; n <= len(s.graph.Nodes); n++ {
		s.ways = append(s.ways, s.graph.After(n), s.graph.Reach(n))
	}
	return s
}

const sampleText = mainHead + "x = in lo; if x < 1 { out lo 1; } else { while b { x = x / 2; a[x] = 1; } } try { throw x; } catch y { return; } call f(1); a = new 2;" + mainTail

// samples are trees of all sorts: programs without an error and with one, and what is no program.
func samples(t *testing.T) []api.Tree {
	r := newGrow(31)
	x := parsed(t, sampleText)
	bad := copied(x)
	bad.Nodes[only(t, x, api.Local)].N = api.Bool
	out := []api.Tree{{}, x, bad, parsed(t, "proc main() { }"), {Nodes: x.Nodes, Root: 3}, over(api.Program, "", leaf(api.Var, "x", 0))}
	for i := range 8 {
		out = append(out, parsed(t, r.program(i%3, 1+i%2)))
	}
	return out
}

// TestArgumentsStay covers P3 of the document: nothing of a tree is changed, within its length or beyond it, and nothing beyond it is read.
func TestArgumentsStay(t *testing.T) {
	for _, x := range samples(t) {
		want := said(x)
		beyond := []api.Node{{Kind: api.Proc, Text: "beyond", N: api.Int}, {Kind: api.Program, Kids: []int{len(x.Nodes)}}}
		nodes := append(copied(x).Nodes, beyond...)
		for i := range x.Nodes {
			kids := append(nodes[i].Kids, math.MinInt, math.MaxInt)
			nodes[i].Kids = kids[:len(kids)-2]
		}
		before := copied(api.Tree{Nodes: nodes})
		if got := said(api.Tree{Nodes: nodes[:len(x.Nodes)], Root: x.Root}); !got.same(want) {
			t.Fatalf("%v, not %v", got, want)
		}
		if !equalTrees(api.Tree{Nodes: nodes}, before) {
			t.Fatal("a tree is changed")
		}
		for i := range x.Nodes {
			kids := nodes[i].Kids
			if rest := kids[len(kids) : len(kids)+2]; rest[0] != math.MinInt || rest[1] != math.MaxInt {
				t.Fatal("a list is changed beyond its end")
			}
		}
	}
}

// TestGraphsStay covers P3 of the document for the calls of a graph: they change nothing of it, within its lists or beyond them, and read nothing beyond.
func TestGraphsStay(t *testing.T) {
	g := built(t, parsed(t, sampleText))
	want := said(parsed(t, sampleText))
	long := copiedGraph(g)
	for i := range long.Nodes {
		next := append(long.Nodes[i].Next, 7, 8, 9)
		long.Nodes[i].Next = next[:len(next)-3]
	}
	long.Nodes = append(long.Nodes, Node{Kind: Entry, Proc: 99}, Node{Kind: Step, At: 1 << 20})[:len(g.Nodes)]
	for n := -1; n <= len(g.Nodes); n++ {
		if !slices.Equal(long.After(n), g.After(n)) || !slices.Equal(long.Reach(n), g.Reach(n)) {
			t.Error(n)
		}
	}
	if long.Entry(99) != -1 || long.Of(1<<20) != -1 {
		t.Error("what is beyond the nodes is read")
	}
	if !equalGraphs(long, want.graph) {
		t.Error("a graph is changed")
	}
	for i, n := range long.Nodes {
		if rest := n.Next[len(n.Next) : len(n.Next)+3]; !slices.Equal(rest, []int{7, 8, 9}) {
			t.Error(i, rest)
		}
	}
}

// TestAnswersAreNew covers P3 of the document: what is answered shares no memory with anything.
func TestAnswersAreNew(t *testing.T) {
	x := parsed(t, sampleText)
	g, want := built(t, x), built(t, x)
	for n := range g.Nodes {
		for _, list := range [][]int{g.After(n), g.Reach(n)} {
			list = list[:cap(list)]
			for i := range list {
				list[i] = -7
			}
		}
		if !equalGraphs(g, want) {
			t.Fatalf("what %d answers is the graph's own", n)
		}
	}
	// Each list of a graph is its own, as far as it may grow.
	for i := range g.Nodes {
		list := g.Nodes[i].Next[:cap(g.Nodes[i].Next)]
		for j := range list {
			list[j] = -7
		}
		for j := range g.Nodes {
			if j > i && !slices.Equal(g.Nodes[j].Next, want.Nodes[j].Next) {
				t.Fatalf("%d and %d share a list", i, j)
			}
		}
		if !slices.Equal(g.Procs, want.Procs) {
			t.Fatal("a Next and Procs share a list")
		}
	}
	procs := g.Procs[:cap(g.Procs)]
	for i := range procs {
		procs[i] = -7
	}
	if !equalGraphs(built(t, x), want) || !equalTrees(x, parsed(t, sampleText)) {
		t.Error("a graph is a part of something else")
	}
}

// TestNothingIsKept covers P3 and P4 of the document: a tree that has changed since is read anew, and its graph stays as it was.
func TestNothingIsKept(t *testing.T) {
	x := parsed(t, sampleText)
	g, want := built(t, x), built(t, x)
	place := only(t, x, api.Binary)
	if Raises(x, place) || x.Nodes[place].Text != "<" {
		t.Fatal(x.Nodes[place])
	}
	place = slices.IndexFunc(x.Nodes, func(n api.Node) bool { return n.Text == "/" })
	if !Raises(x, place) {
		t.Fatal(place)
	}
	x.Nodes[place].Text = "*"
	if Raises(x, place) || Raises(x, place+1) {
		t.Error("a tree is kept")
	}
	if changed := built(t, x); changed.Nodes[changed.Of(place+1)].Raise != -1 || equalGraphs(changed, want) {
		t.Error("a graph is kept")
	}
	for i := range x.Nodes {
		kids := x.Nodes[i].Kids[:cap(x.Nodes[i].Kids)]
		for j := range kids {
			kids[j] = math.MinInt
		}
		x.Nodes[i] = api.Node{}
	}
	if !equalGraphs(g, want) {
		t.Error("a graph changes with its tree")
	}
	if _, e := Build(x); e != api.ErrArg || Raises(x, place) {
		t.Error(e)
	}
}

// TestSameAnswers covers P4 of the document: the same call answers the same, whatever was asked in between, and of a copy too.
func TestSameAnswers(t *testing.T) {
	trees := samples(t)
	first := make([]saying, len(trees))
	for i, x := range trees {
		first[i] = said(x)
		if !said(x).same(first[i]) || !said(copied(x)).same(first[i]) {
			t.Errorf("tree %d: another answer", i)
		}
	}
	for i, x := range slices.Backward(trees) {
		if !said(x).same(first[i]) {
			t.Errorf("tree %d: another answer behind others", i)
		}
	}
	var wait sync.WaitGroup
	again := make([]saying, len(trees))
	for i, x := range trees {
		wait.Go(func() { again[i] = said(x) })
	}
	wait.Wait()
	for i := range trees {
		if !again[i].same(first[i]) {
			t.Errorf("tree %d: another answer beside others", i)
		}
	}
}

// TestErrorsWithoutAnAnswer covers P2 of the document: beside an error there is no graph.
func TestErrorsWithoutAnAnswer(t *testing.T) {
	refused := 0
	for _, x := range samples(t) {
		g, e := Build(x)
		if e == api.OK {
			if len(g.Nodes) == 0 || len(g.Procs) == 0 {
				t.Error("no graph")
			}
			continue
		}
		refused++
		if e != api.ErrArg || len(g.Nodes) != 0 || len(g.Procs) != 0 {
			t.Error(g, e)
		}
	}
	if refused < 4 {
		t.Error(refused)
	}
}

// TestOffsetsDoNotMatter: where a node begins in the text says nothing about where control goes.
func TestOffsetsDoNotMatter(t *testing.T) {
	for _, x := range samples(t) {
		y := copied(x)
		for i := range y.Nodes {
			y.Nodes[i].At = []int{-1, math.MinInt, math.MaxInt, 20001, -i}[i%5]
		}
		if !said(y).same(said(x)) {
			t.Fatal(y)
		}
	}
}

// TestEmptyAndNilKids covers P5 of the document: a node without children may have a nil list or an empty one.
func TestEmptyAndNilKids(t *testing.T) {
	x := parsed(t, sampleText+" proc none() { if true { } while true { } try { } catch g { } }")
	for _, list := range [][]int{nil, {}, make([]int, 0, 9)} {
		y := copied(x)
		for i := range y.Nodes {
			if len(y.Nodes[i].Kids) == 0 {
				y.Nodes[i].Kids = list
			}
		}
		if !said(y).same(said(x)) {
			t.Error(list)
		}
	}
}
