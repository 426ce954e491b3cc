package flow

import (
	"math"
	"slices"
	"strings"
	"testing"

	"runnel/api"
	"runnel/parse"
	"runnel/tree"
	"runnel/types"
)

// wantRefused wants that a tree that Check doesn't accept has no graph, and that nothing in it raises.
func wantRefused(t *testing.T, why string, x api.Tree) {
	t.Helper()
	if _, e := types.Check(x); e == api.OK {
		t.Fatalf("%s: Check accepts it", why)
	}
	if g, e := Build(x); e != api.ErrArg || len(g.Nodes) != 0 || len(g.Procs) != 0 {
		t.Errorf("%s: %v, %v", why, g, e)
	}
	places := append(outside(), 0, 1, 2, 3, 5, 8, x.Root-1, x.Root, len(x.Nodes)-1, len(x.Nodes))
	if len(x.Nodes) < 100 {
		places = append(places, count(0, len(x.Nodes))...)
	}
	for _, place := range places {
		if Raises(x, place) {
			t.Errorf("%s: Raises at %d", why, place)
		}
	}
}

// TestF1Errors: trees that are valid but have an error of each sort, among much that would raise.
func TestF1Errors(t *testing.T) {
	body := "var a arr; var x int; a[0] = 1 / 0; throw x % 2; x = call f(a[1]); "
	for text, want := range map[string]api.Errno{
		"proc f(x int) int { return x / 2; } proc f(x int) int { return x; } proc main() { " + body + " }": api.ErrThere,
		"var x int; var x int; proc f(x int) int { return x / 2; } proc main() { " + body + " }":           api.ErrThere,
		"proc f(x int) int { var x int; return x / 2; } proc main() { " + body + " }":                      api.ErrThere,
		"proc f(x int) int { return x / 2; } proc main() { " + body + " y = 1; }":                          api.ErrName,
		"proc f(x int) int { return x / 2; } proc main() { " + body + " call g(); }":                       api.ErrName,
		"proc main() { " + body + " }": api.ErrName,
		"proc f(x int) int { return x / 2; } proc main() { " + body + " x = true; }":              api.ErrType,
		"proc f(x int) int { return x / 2; } proc main() { " + body + " if x { } }":               api.ErrType,
		"proc f(x int) int { return x / 2; } proc main() { " + body + " return 1; }":              api.ErrType,
		"proc f(x int) int { return x / 2; } proc m() { " + body + " }":                           api.ErrMain,
		"proc f(x int) int { return x / 2; } proc main(y int) { " + body + " }":                   api.ErrMain,
		"proc f(x int) int { return x / 2; } proc main() int { " + strings.TrimSpace(body) + " }": api.ErrMain,
		"":                             api.ErrMain,
		"var x int;":                   api.ErrMain,
		"proc f() { }":                 api.ErrMain,
		"proc main() { y = 1 / 0; }":   api.ErrName,
		"proc main() { throw true; }":  api.ErrType,
		"proc main() { out lo a[0]; }": api.ErrName,
	} {
		x, at, e := parse.Program(text)
		if e != api.OK {
			t.Fatal(text, at, e)
		}
		if _, e := types.Check(x); e != want {
			t.Fatal(text, e)
		}
		wantRefused(t, text, x)
	}
}

// TestF1OneFault: a program that is accepted is refused with one fault in it, wherever that is.
func TestF1OneFault(t *testing.T) {
	x := parsed(t, mainHead+"x = 1 / y; while b { try { a[0] = x; } catch x { out lo a[x]; } } x = call f(x);"+mainTail)
	refused := 0
	for place := range x.Nodes {
		for _, change := range []func(n *api.Node){
			func(n *api.Node) { n.Text = "nobody" },
			func(n *api.Node) { n.Text = "" },
			func(n *api.Node) { n.Text = "a" },
			func(n *api.Node) { n.N = 5 },
			func(n *api.Node) { n.N = -1 },
			func(n *api.Node) { n.Kind = 0 },
			func(n *api.Node) { n.Kind = api.Block },
			func(n *api.Node) { n.Kids = append(n.Kids, place) },
			func(n *api.Node) { n.Kids = append(n.Kids, place-1) },
			func(n *api.Node) { n.Kids = []int{math.MaxInt} },
		} {
			y := copied(x)
			change(&y.Nodes[place])
			if _, e := types.Check(y); e == api.OK {
				hold(t, y)
				continue
			}
			refused++
			wantRefused(t, "one thing is changed", y)
		}
	}
	if refused < 200 {
		t.Error(refused)
	}
}

// TestF1NotValid: trees that are not valid.
func TestF1NotValid(t *testing.T) {
	x := parsed(t, mainHead+"x = 1 / y; a[0] = x; throw 1;"+mainTail)
	last := len(x.Nodes) - 1
	expr, _, _ := parse.Expr("1 / 0")
	statement := over(api.Throw, "", leaf(api.Const, "", 1))
	proc := over(api.Proc, "main", over(api.Block, "", statement))
	for why, y := range map[string]api.Tree{
		"no nodes":                 {},
		"no nodes and a root":      {Root: 1},
		"an empty list of nodes":   {Nodes: []api.Node{}},
		"a node of no kind":        {Nodes: []api.Node{{}}},
		"an expression":            expr,
		"a statement":              statement,
		"a Block":                  over(api.Block, "", statement),
		"a Proc":                   proc,
		"a Program in another":     over(api.Program, "", over(api.Program, "", proc)),
		"a Global behind a Proc":   over(api.Program, "", proc, leaf(api.Global, "x", api.Int)),
		"a statement in a Program": over(api.Program, "", proc, statement),
		"a root ahead of the end":  {Nodes: x.Nodes, Root: last - 1},
		"a root at 0":              {Nodes: x.Nodes},
		"a root ahead of all":      {Nodes: x.Nodes, Root: -1},
		"a root behind all":        {Nodes: x.Nodes, Root: last + 1},
		"a root far ahead":         {Nodes: x.Nodes, Root: math.MinInt},
		"a root far behind":        {Nodes: x.Nodes, Root: math.MaxInt},
		"without the last node":    {Nodes: x.Nodes[:last], Root: last - 1},
		"without the first node":   {Nodes: x.Nodes[1:], Root: last - 1},
		"a kid that is itself":     {Nodes: []api.Node{{Kind: api.Index, Text: "a", Kids: []int{0}}}},
		"kids in a ring":           {Nodes: []api.Node{{Kind: api.Unary, Text: "-", Kids: []int{1}}, {Kind: api.Unary, Text: "-", Kids: []int{0}}}, Root: 1},
		"a kid far behind":         {Nodes: []api.Node{{Kind: api.Throw, Kids: []int{math.MaxInt}}}},
		"a kid far ahead":          {Nodes: []api.Node{{Kind: api.Binary, Text: "/", Kids: []int{math.MinInt, -1}}}},
		"a million nodes":          {Nodes: make([]api.Node, 1<<20), Root: 1<<20 - 1},
	} {
		if tree.Right(y) {
			t.Fatal(why)
		}
		wantRefused(t, why, y)
	}
	deep := statement
	for range 18 {
		deep = over(api.If, "", leaf(api.Truth, "", 1), over(api.Block, "", deep), over(api.Block, ""))
	}
	y := over(api.Program, "", over(api.Proc, "main", over(api.Block, "", deep)))
	if tree.Depth(y) != api.MaxDeep+1 {
		t.Fatal(tree.Depth(y))
	}
	wantRefused(t, "too deep", y)
}

// TestTotalityOfTrees covers P1 of the document: no tree makes a call panic, whatever its numbers are.
func TestTotalityOfTrees(t *testing.T) {
	r := newGrow(7)
	odd := func() int {
		return []int{math.MinInt, -1, 0, 1, 2, 3, r.Intn(30), r.Intn(30), 4000, 1 << 31, math.MaxInt}[r.Intn(11)]
	}
	texts := []string{"", "a", "x", "main", "-", "/", "%", "&&", "\x00", "é", "var", strings.Repeat("x", 1<<12)}
	for range 20000 {
		x := api.Tree{Nodes: make([]api.Node, r.Intn(6)), Root: odd()}
		if r.Intn(4) > 0 {
			x.Root = len(x.Nodes) - 1
		}
		for i := range x.Nodes {
			x.Nodes[i] = api.Node{Kind: odd(), N: odd(), At: odd(), Text: texts[r.Intn(len(texts))]}
			for range r.Intn(3) {
				x.Nodes[i].Kids = append(x.Nodes[i].Kids, odd())
			}
		}
		_, e := types.Check(x)
		g, errno := Build(x)
		if (e == api.OK) != (errno == api.OK) || errno != api.OK && (errno != api.ErrArg || len(g.Nodes)+len(g.Procs) > 0) {
			t.Fatal(x, g, e, errno)
		}
		if place := odd(); Raises(x, place) && e != api.OK {
			t.Fatal(x, place)
		}
	}
}

// TestTotalityOfGraphs covers P1 and P7 of the document: no graph, of Build or not, makes a call panic or go on forever.
func TestTotalityOfGraphs(t *testing.T) {
	r := newGrow(8)
	odd := func() int {
		return []int{math.MinInt, -2, -1, 0, 1, 2, 3, r.Intn(8), r.Intn(8), 1 << 31, math.MaxInt}[r.Intn(11)]
	}
	for range 20000 {
		g := Graph{Nodes: make([]Node, r.Intn(8))}
		for i := range g.Nodes {
			g.Nodes[i] = Node{Kind: odd(), At: odd(), Proc: odd(), Raise: odd()}
			for range r.Intn(4) {
				g.Nodes[i].Next = append(g.Nodes[i].Next, odd())
			}
		}
		for range r.Intn(4) {
			g.Procs = append(g.Procs, odd())
		}
		before := copiedGraph(g)
		for _, n := range append(count(-1, 9), outside()...) {
			g.Entry(n)
			g.Exit(n)
			g.Fail(n)
			g.Of(n)
			g.After(n)
			reach := g.Reach(n)
			if n < 0 || n >= len(g.Nodes) {
				if len(reach)+len(g.After(n)) > 0 {
					t.Fatal(g, n)
				}
				continue
			}
			if !slices.Contains(reach, n) || !slices.IsSorted(reach) {
				t.Fatal(g, n, reach)
			}
		}
		if !equalGraphs(g, before) {
			t.Fatal("a graph is changed")
		}
	}
	for _, g := range []Graph{{}, {Nodes: []Node{}}, {Procs: []int{1}}, {Procs: []int{0}}} {
		for _, n := range append(count(-1, 3), outside()...) {
			if g.Entry(n) != -1 || g.Exit(n) != -1 || g.Fail(n) != -1 || g.Of(n) != -1 || len(g.After(n)) > 0 || len(g.Reach(n)) > 0 {
				t.Error(g, n)
			}
		}
	}
}
