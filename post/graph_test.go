package post

import (
	"math"
	"slices"
	"strconv"
	"strings"
	"testing"

	"runnel/api"
	"runnel/flow"
)

// TestN1Refused: graphs that are not like a result of flow.Build, beside the nearest ones that are.
func TestN1Refused(t *testing.T) {
	far := []int{math.MinInt, -3, -2, 4, 5, 4096, 1 << 32, math.MaxInt}
	good := func() []flow.Node {
		return []flow.Node{last(flow.Entry, 3), exit(), fail(), raising(2, 1)}
	}
	hold(t, graph(good()...), 0)
	for _, to := range append(far, -1) {
		for at := range good() {
			for _, next := range [][]int{{to}, {1, to}, {to, 1}, {1, 2, to}} {
				nodes := good()
				nodes[at].Next = next
				wantRefused(t, graph(nodes...), 0)
			}
		}
	}
	for _, to := range far {
		for at := range good() {
			nodes := good()
			nodes[at].Raise = to
			wantRefused(t, graph(nodes...), 0)
		}
	}
	// A Raise of -1 is none, wherever it stands, and one that is a node leads there.
	for at := range good() {
		for raise := -1; raise < 4; raise++ {
			nodes := good()
			nodes[at].Raise = raise
			hold(t, graph(nodes...), 0)
		}
	}
}

func wantRefused(t *testing.T, g flow.Graph, proc int) {
	t.Helper()
	if p, e := New(g, proc); p != nil || e != api.ErrArg {
		t.Errorf("%v, %v of %d in %v", p, e, proc, g)
	}
	if wantAccepted(g, proc) {
		t.Errorf("the model accepts %v", g)
	}
}

// TestN1OtherProcedures: control that goes from one procedure to another, either way, is a fault of the graph, whichever of them is asked for.
func TestN1OtherProcedures(t *testing.T) {
	good := func() []flow.Node {
		return []flow.Node{last(flow.Entry, 3), exit(), fail(), raising(2, 1), of(1, last(flow.Entry, 7)), of(1, exit()), of(1, fail()), of(1, raising(6, 5))}
	}
	for proc := range 2 {
		hold(t, graph(good()...), proc)
		for at := range good() {
			for to := range good() {
				if good()[at].Proc == good()[to].Proc {
					continue
				}
				nodes := good()
				nodes[at].Next = append(nodes[at].Next, to)
				wantRefused(t, graph(nodes...), proc)
				nodes = good()
				nodes[at].Raise = to
				wantRefused(t, graph(nodes...), proc)
			}
			nodes := good()
			nodes[at].Proc = 2 // it leads, or is led to, from another procedure then
			wantRefused(t, graph(nodes...), proc)
			nodes = good()
			nodes[at].Next, nodes[at].Raise = []int{at}, -1
			if nodes[at].Kind == flow.Exit || nodes[at].Kind == flow.Fail {
				hold(t, graph(nodes...), proc)
			} else {
				wantRefused(t, graph(nodes...), proc)
			}
		}
	}
}

// TestN1Ends: from each node an Exit or a Fail must be reached.
func TestN1Ends(t *testing.T) {
	for _, nodes := range [][]flow.Node{
		{step()},
		{step(0)},
		{step(1), step(0)},
		{step(1), step()},
		{exit(), step()},
		{step(), exit()},
		{step(2), exit(), step(0)},
		{step(1), exit(), step(3), step(4), step(2)},
		{step(1, 2), exit(), step(2)},
		{step(1, 2), exit(), step(3), step(2)},
		{raising(1, 2), step(), exit()},
		{raising(2, 1), step(1), fail()},
		{last(flow.Entry)},
		{last(flow.Entry, 0)},
		{last(0), exit()},
		{last(5), fail()},
		{last(-1)},
		{last(math.MaxInt)},
		{raising(0)},
		{exit(), of(1, step())},
		{exit(), of(9, step(1))},
		{exit(), of(-1, step(1))},
	} {
		g := graph(nodes...)
		wantRefused(t, g, 0)
	}
	for _, nodes := range [][]flow.Node{
		{exit()},
		{fail()},
		{exit(), fail()},
		{exit(), exit(), fail(), fail()},
		{step(1), exit()},
		{step(1), fail()},
		{raising(1), exit()},
		{raising(1), fail()},
		{raising(0, 1), exit()},
		{step(0, 1), exit()},
		{step(1), step(0, 2), fail()},
		{step(1, 1, 1), exit()},
		{raising(1, 1), exit()},
		{last(flow.Entry, 1), last(0, 2), last(5, 3), last(-1, 4), exit()},
		{last(flow.Entry, 0, 1), last(flow.Entry, 0, 2), fail()},
		{exit(), of(1, exit())},
		{exit(), of(9, step(2)), of(9, fail())},
	} {
		hold(t, graph(nodes...), 0)
	}
}

// TestN2EndsThatGoOn: the End comes after an Exit and a Fail also where these lead on, so that they pass themselves alone.
func TestN2EndsThatGoOn(t *testing.T) {
	for _, nodes := range [][]flow.Node{
		{last(flow.Exit, 0)},
		{last(flow.Exit, 1), exit()},
		{last(flow.Exit, 1), last(flow.Fail, 0)},
		{step(1), last(flow.Exit, 2), step(3), exit()},
		{step(1), last(flow.Fail, 2), step(0)},
		{last(flow.Exit, 1), step(2), last(flow.Exit, 3), step(0)},
		{{Kind: flow.Exit, Raise: 1}, exit()},
		{{Kind: flow.Fail, Next: []int{0}, Raise: 1}, step(2), fail()},
	} {
		p := hold(t, graph(nodes...), 0)
		for i, n := range nodes {
			if (n.Kind == flow.Exit || n.Kind == flow.Fail) && (p.Next(i) != -1 || !slices.Equal(p.Chain(i), []int{i}) || p.Depth(i) != 1) {
				t.Error(i, nodes)
			}
		}
	}
}

// nodesOf are the nodes of these kinds and Raises that lead to any of so many nodes.
func nodesOf(size int, kinds, raises []int) []flow.Node {
	var out []flow.Node
	for subset := range 1 << size {
		var next []int
		for k := range size {
			if subset>>k&1 == 1 {
				next = append(next, k)
			}
		}
		for _, kind := range kinds {
			for _, raise := range raises {
				out = append(out, flow.Node{Kind: kind, Next: next, Raise: raise})
			}
		}
	}
	return out
}

// eachGraph hands on each graph whose nodes are the first ones, and so many more of these.
func eachGraph(first []flow.Node, more int, from []flow.Node, do func(g flow.Graph)) {
	if more == 0 {
		do(graph(slices.Clone(first)...))
		return
	}
	for _, n := range from {
		eachGraph(append(first, n), more-1, from, do)
	}
}

// TestN2AllSmallGraphs: all graphs of up to two nodes, with each Raise and with two that are none; all of three without a Raise; and all of three steps ahead of which an Exit stands.
func TestN2AllSmallGraphs(t *testing.T) {
	held, refused := 0, 0
	do := func(g flow.Graph) {
		if holdOrRefuse(t, g, 0) {
			held++
		} else {
			refused++
		}
	}
	ends := []int{flow.Step, flow.Exit, flow.Fail}
	eachGraph(nil, 0, nil, do)
	eachGraph(nil, 1, nodesOf(1, ends, []int{-2, -1, 0, 1}), do)
	eachGraph(nil, 2, nodesOf(2, ends, []int{-2, -1, 0, 1, 2}), do)
	eachGraph(nil, 3, nodesOf(3, []int{flow.Step, flow.Exit}, []int{-1}), do)
	eachGraph([]flow.Node{exit()}, 3, nodesOf(4, []int{flow.Step}, []int{-1}), do)
	if held < 5000 || refused < 3000 {
		t.Error(held, refused)
	}
}

// random is a graph of so many nodes and procedures, of which each leads to few others of its own, and now and then to what is none.
func (g *grow) random(size, procs int) flow.Graph {
	ends, ways := 4+g.Intn(9), 1+g.Intn(3)
	out := flow.Graph{Nodes: make([]flow.Node, size), Procs: make([]int, procs)}
	members := make([][]int, procs)
	for i := range out.Nodes {
		proc := g.Intn(procs)
		out.Nodes[i] = flow.Node{Kind: flow.Step, At: g.Intn(9), Proc: proc, Raise: -1}
		members[proc] = append(members[proc], i)
	}
	for i := range out.Nodes {
		n := &out.Nodes[i]
		own := members[n.Proc]
		if g.Intn(ends) == 0 || own[0] == i {
			n.Kind = flow.Exit + g.Intn(2)
		}
		for range 1 + g.Intn(ways) {
			if n.Kind == flow.Step || g.Intn(8) == 0 {
				n.Next = append(n.Next, own[g.Intn(len(own))])
			}
		}
		if g.Intn(9) == 0 {
			n.Raise = own[g.Intn(len(own))]
		}
		if g.Intn(400) == 0 {
			n.Raise = g.Intn(size+4) - 2
		}
		if g.Intn(400) == 0 {
			n.Next = append(n.Next, g.Intn(size+4)-2)
		}
	}
	return out
}

// TestN2RandomGraphs: graphs that no program has, small ones against each sequence.
func TestN2RandomGraphs(t *testing.T) {
	r := newGrow(11)
	held, refused, deep, many := 0, 0, 0, 0
	for i := range 6000 {
		size := r.Intn(10)
		if i%10 == 0 {
			size = 10 + r.Intn(30)
		}
		g := r.random(size, 1+r.Intn(3))
		for proc := range g.Procs {
			if !holdOrRefuse(t, g, proc) {
				refused++
				continue
			}
			held++
			p := made(t, g, proc)
			for _, n := range p.Nodes() {
				if p.Depth(n) > 4 {
					deep++
				}
				if len(g.After(n)) > 1 && p.Next(n) != -1 {
					many++
				}
			}
		}
	}
	if held < 2000 || refused < 2000 || deep < 400 || many < 2000 {
		t.Error("too little is seen", held, refused, deep, many)
	}
}

// TestN2RandomPrograms: programs of all sorts, each procedure of them.
func TestN2RandomPrograms(t *testing.T) {
	r := newGrow(12)
	held, small, loops, caught, unreached := 0, 0, 0, 0, 0
	for i := range 500 {
		_, g := parsed(t, r.program(i%4, 1+i%3))
		if len(g.Nodes) > 70 {
			continue
		}
		for proc := range g.Procs {
			p := hold(t, g, proc)
			held++
			reached := g.Reach(g.Entry(proc))
			for _, n := range p.Nodes() {
				if g.Nodes[n].Raise >= 0 && g.Nodes[g.Nodes[n].Raise].Kind == flow.Step {
					caught++
				}
				if slices.ContainsFunc(g.After(n), func(k int) bool { return p.Passes(k, n) }) {
					loops++
				}
				if !slices.Contains(reached, n) {
					unreached++
				}
			}
		}
		if len(g.Nodes) <= 14 {
			small++
		}
	}
	if held < 500 || small < 100 || loops < 100 || caught < 50 || unreached < 300 {
		t.Error("too little is seen", held, small, loops, caught, unreached)
	}
}

// TestN2ManyProcedures: a program with nodes whose numbers no bits.Set has room for.
func TestN2ManyProcedures(t *testing.T) {
	var text strings.Builder
	for i := range 1400 {
		text.WriteString("proc f" + strconv.Itoa(i) + "(){}")
	}
	text.WriteString("proc main(){out lo 1;return;}")
	_, g := parsed(t, text.String())
	if len(g.Nodes) < 4096 {
		t.Fatal(len(g.Nodes))
	}
	entry, exit := g.Entry(1400), g.Exit(1400)
	p := made(t, g, 1400)
	want := []int{entry, exit + 2, exit + 3, exit}
	if got := p.Chain(entry); !slices.Equal(got, want) || p.Depth(entry) != 4 || p.Next(entry) != want[1] || !p.Passes(entry, exit) || p.Common(entry, exit) != exit {
		t.Error(got, want)
	}
	for _, proc := range []int{0, 1, 700, 1364, 1365, 1366, 1399} {
		p := made(t, g, proc)
		at := 3 * proc
		if !slices.Equal(p.Nodes(), []int{at, at + 1, at + 2}) || !slices.Equal(p.Chain(at), []int{at, at + 1}) || p.Next(at+1) != -1 || p.Next(at+2) != -1 || p.Passes(at, at+2) || p.Next(at-1) != -2 || p.Next(at+3) != -2 {
			t.Error(proc, p.Nodes(), p.Chain(at))
		}
	}
}
