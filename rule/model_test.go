package rule

import (
	"slices"
	"strconv"
	"strings"
	"testing"

	"runnel/api"
	"runnel/flow"
	"runnel/parse"
	"runnel/post"
	"runnel/print"
)

// program is the tree of a text without an error, and its graph.
func program(t *testing.T, text string) (api.Tree, flow.Graph) {
	t.Helper()
	x, at, e := parse.Program(text)
	g, f := flow.Build(x)
	if e != api.OK || f != api.OK {
		t.Fatalf("%q: %v at %d, %v", text, e, at, f)
	}
	return x, g
}

func accepted(t *testing.T, g flow.Graph, proc int) *Rule {
	t.Helper()
	r, e := New(g, proc)
	if r == nil || e != api.OK {
		t.Fatalf("%v of %d in %v", e, proc, g)
	}
	return r
}

// name is what a test calls a node: a statement's line (a Try with its variable), or which end it is.
func name(x api.Tree, n flow.Node) string {
	switch n.Kind {
	case flow.Entry:
		return "entry"
	case flow.Exit:
		return "exit"
	case flow.Fail:
		return "fail"
	}
	if x.Nodes[n.At].Kind == api.Try {
		return "try " + x.Nodes[n.At].Text
	}
	return print.Line(x, n.At)
}

func names(x api.Tree, g flow.Graph, nodes []int) string {
	var out []string
	for _, n := range nodes {
		out = append(out, name(x, g.Nodes[n]))
	}
	slices.Sort(out)
	return strings.Join(out, ", ")
}

// named is the node of a procedure that has a name.
func named(t *testing.T, x api.Tree, g flow.Graph, proc int, s string) int {
	t.Helper()
	n := slices.IndexFunc(g.Nodes, func(n flow.Node) bool { return n.Proc == proc && name(x, n) == s })
	if n < 0 {
		t.Fatal("no node", s)
	}
	return n
}

const (
	mainHead = "proc main() { var x int; var y int; var b bool; var a arr; var u fun; "
	mainTail = " } proc f(x int) int { return x; }"
)

// wantMain wants a main with these statements to have just these edges: a line for each branch by which something is controlled.
func wantMain(t *testing.T, statements string, want ...string) {
	t.Helper()
	wantEdges(t, mainHead+statements+mainTail, 0, want...)
}

func wantEdges(t *testing.T, text string, proc int, want ...string) {
	t.Helper()
	x, g := program(t, text)
	r := hold(t, g, proc)
	over := map[string][]int{}
	for _, e := range r.Edges() {
		branch := name(x, g.Nodes[e.From]) + " " + strconv.Itoa(e.Way)
		over[branch] = append(over[branch], e.To)
	}
	var got []string
	for branch, nodes := range over {
		got = append(got, branch+": "+names(x, g, nodes))
	}
	slices.Sort(got)
	slices.Sort(want)
	if !slices.Equal(got, want) {
		t.Errorf("%s\n%s\nnot\n%s", text, strings.Join(got, "\n"), strings.Join(want, "\n"))
	}
}

// ways are where the branches of a node lead, -1 for the End.
func ways(n flow.Node) []int {
	var list []int
	list = append(list, n.Next...)
	if n.Raise != -1 {
		list = append(list, n.Raise)
	}
	if n.Kind == flow.Entry {
		list = append(list, -1)
	}
	return list
}

// plain is what controls what by the words of the definition, each node by each branch tried with each node.
func plain(t *testing.T, g flow.Graph, proc int) []Edge {
	t.Helper()
	p, e := post.New(g, proc)
	if e != api.OK {
		t.Fatalf("%v of %d in %v", e, proc, g)
	}
	passes := func(a, b int) bool {
		if a != -1 && g.Nodes[a].Kind == flow.Entry {
			return a == b
		}
		return p.Passes(a, b)
	}
	var edges []Edge
	for _, n := range p.Nodes() {
		for way, s := range ways(g.Nodes[n]) {
			for _, m := range p.Nodes() {
				if passes(s, m) && (!passes(n, m) || m == n) {
					edges = append(edges, Edge{n, way, m})
				}
			}
		}
	}
	return edges
}

// hold holds all answers about a procedure against the definition, those of numbers around its nodes too.
func hold(t *testing.T, g flow.Graph, proc int) *Rule {
	t.Helper()
	r := accepted(t, g, proc)
	edges := plain(t, g, proc)
	if got := r.Edges(); !slices.Equal(got, edges) {
		t.Fatalf("%v, not %v, of %d in %v", got, edges, proc, g)
	}
	is := make([]bool, len(g.Nodes)+6)
	for i, n := range g.Nodes {
		is[i+3] = n.Proc == proc
	}
	for m := -3; m < len(g.Nodes)+3; m++ {
		on, over := sides(edges, m)
		if got := r.On(m); !slices.Equal(got, on) {
			t.Fatalf("On of %d is %v, not %v, of %d in %v", m, got, on, proc, g)
		}
		if got := r.Over(m); !slices.Equal(got, over) {
			t.Fatalf("Over of %d is %v, not %v, of %d in %v", m, got, over, proc, g)
		}
		if got, want := r.All(m), closed(edges, m); !slices.Equal(got, want) {
			t.Fatalf("All of %d is %v, not %v, of %d in %v", m, got, want, proc, g)
		}
		if got, want := r.Free(m), is[m+3] && len(on) == 0; got != want {
			t.Fatalf("Free of %d is %v, of %d in %v", m, got, proc, g)
		}
	}
	holdRows(t, g, r)
	holdW3(t, g, proc, r)
	return r
}

// sides are the nodes that have an edge to one, and those that have one from it.
func sides(edges []Edge, n int) (on, over []int) {
	for _, e := range edges {
		if e.To == n {
			on = append(on, e.From)
		}
		if e.From == n {
			over = append(over, e.To)
		}
	}
	slices.Sort(on)
	slices.Sort(over)
	return slices.Compact(on), slices.Compact(over)
}

// closed is the nodes from which edges lead to one, over others or not: one edge more, until there is none.
func closed(edges []Edge, m int) []int {
	var all []int
	for again := true; again; {
		again = false
		for _, e := range edges {
			if (e.To == m || slices.Contains(all, e.To)) && !slices.Contains(all, e.From) {
				all, again = append(all, e.From), true
			}
		}
	}
	slices.Sort(all)
	return all
}

// holdRows holds what the answers say of one another: each row goes up, On and Over tell the same, and All is closed.
func holdRows(t *testing.T, g flow.Graph, r *Rule) {
	t.Helper()
	for m := range g.Nodes {
		on, all := r.On(m), r.All(m)
		for _, row := range [][]int{on, r.Over(m), all} {
			for i := 1; i < len(row); i++ {
				if row[i-1] >= row[i] {
					t.Fatalf("a row of %d doesn't go up: %v: %v", m, row, g)
				}
			}
		}
		for n := range g.Nodes {
			if slices.Contains(on, n) != slices.Contains(r.Over(n), m) {
				t.Fatalf("On of %d and Over of %d tell something else: %v", m, n, g)
			}
		}
		for _, n := range append(slices.Clone(all), m) {
			for _, k := range r.On(n) {
				if !slices.Contains(all, k) {
					t.Fatalf("All of %d, %v, lacks %d, which controls %d: %v", m, all, k, n, g)
				}
			}
		}
	}
}

// holdW3 holds what follows.
func holdW3(t *testing.T, g flow.Graph, proc int, r *Rule) {
	t.Helper()
	p, _ := post.New(g, proc)
	used := map[[2]int]int{}
	for _, e := range r.Edges() {
		used[[2]int{e.From, e.Way}]++
	}
	var entries []int
	for _, n := range p.Nodes() {
		node := g.Nodes[n]
		if node.Kind == flow.Entry {
			entries = append(entries, n)
		}
		// An Exit or a Fail that leads on, as none of Build does, has the End as another way.
		isLast := node.Kind == flow.Exit || node.Kind == flow.Fail
		if len(ways(node)) < 2 && !isLast && len(r.Over(n)) > 0 {
			t.Fatalf("%d has one branch and controls %v: %v", n, r.Over(n), g)
		}
		for way, to := range ways(node) {
			if used[[2]int{n, way}] == 0 && !p.Passes(n, to) {
				t.Fatalf("%d controls nothing by branch %d to %d, which it doesn't pass: %v", n, way, to, g)
			}
		}
	}
	if len(entries) != 1 || !slices.Equal(g.Reach(entries[0]), p.Nodes()) {
		return
	}
	for _, n := range p.Nodes() {
		if n != entries[0] && (r.Free(n) || !slices.Contains(r.All(n), entries[0])) {
			t.Fatalf("%d is reached, but free or not under the Entry: %v", n, g)
		}
	}
}

// refused wants New to answer nothing, and the error of post.New.
func refused(t *testing.T, g flow.Graph, proc int) {
	t.Helper()
	p, want := post.New(g, proc)
	if r, e := New(g, proc); p != nil || want != api.ErrArg || r != nil || e != want {
		t.Errorf("%v, %v, not nil, %v, of %d in %v", r, e, want, proc, g)
	}
}

// holdOrRefuse holds what post.New accepts, and wants the rest refused; which of both?
func holdOrRefuse(t *testing.T, g flow.Graph, proc int) bool {
	t.Helper()
	if _, e := post.New(g, proc); e != api.OK {
		refused(t, g, proc)
		return false
	}
	hold(t, g, proc)
	return true
}
