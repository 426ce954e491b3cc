package post

import (
	"slices"
	"strings"
	"testing"

	"runnel/api"
	"runnel/flow"
	"runnel/parse"
	"runnel/print"
)

// The nodes of graphs made by hand.

func step(next ...int) flow.Node { return flow.Node{Kind: flow.Step, Next: next, Raise: -1} }

func raising(raise int, next ...int) flow.Node {
	return flow.Node{Kind: flow.Step, Next: next, Raise: raise}
}

func last(kind int, next ...int) flow.Node { return flow.Node{Kind: kind, Next: next, Raise: -1} }

func exit() flow.Node { return last(flow.Exit) }

func fail() flow.Node { return last(flow.Fail) }

// of is a node as one of a procedure.
func of(proc int, n flow.Node) flow.Node {
	n.Proc = proc
	return n
}

// graph has as many procedures as its nodes need, but one at least.
func graph(nodes ...flow.Node) flow.Graph {
	g := flow.Graph{Nodes: nodes, Procs: []int{7}}
	for _, n := range nodes {
		for n.Proc >= len(g.Procs) {
			g.Procs = append(g.Procs, 7)
		}
	}
	return g
}

func copied(g flow.Graph) flow.Graph {
	nodes := slices.Clone(g.Nodes)
	for i := range nodes {
		nodes[i].Next = slices.Clone(nodes[i].Next)
	}
	return flow.Graph{Nodes: nodes, Procs: slices.Clone(g.Procs)}
}

func equalGraphs(a, b flow.Graph) bool {
	return slices.Equal(a.Procs, b.Procs) && slices.EqualFunc(a.Nodes, b.Nodes, func(x, y flow.Node) bool {
		return x.Kind == y.Kind && x.At == y.At && x.Proc == y.Proc && x.Raise == y.Raise && slices.Equal(x.Next, y.Next)
	})
}

// parsed is the tree of a program without an error, and its graph.
func parsed(t *testing.T, text string) (api.Tree, flow.Graph) {
	t.Helper()
	x, at, e := parse.Program(text)
	if e != api.OK {
		t.Fatalf("%q: %d, %v", text, at, e)
	}
	g, e := flow.Build(x)
	if e != api.OK {
		t.Fatalf("%q: %v", text, e)
	}
	return x, g
}

func made(t *testing.T, g flow.Graph, proc int) *Post {
	t.Helper()
	p, e := New(g, proc)
	if e != api.OK || p == nil {
		t.Fatalf("%v, %v of %d in %v", p, e, proc, g)
	}
	return p
}

// label is a node's name in a test: a statement's line (of a Try with its variable), or which end it is.
func label(x api.Tree, n flow.Node) string {
	if n.Kind != flow.Step {
		return []string{"", "entry", "exit", "fail"}[n.Kind]
	}
	if at := x.Nodes[n.At]; at.Kind == api.Try {
		return "try " + at.Text
	}
	return print.Line(x, n.At)
}

// labels are the nodes of a procedure by their names; the End is there too.
func labels(x api.Tree, g flow.Graph, proc int) map[string]int {
	m := map[string]int{"end": -1}
	for i, n := range g.Nodes {
		if n.Proc == proc {
			m[label(x, n)] = i
		}
	}
	return m
}

// wantChains wants these Chains, each told by the names of its nodes, of all nodes of a procedure but of the Exit and the Fail.
func wantChains(t *testing.T, text string, proc int, want ...string) {
	t.Helper()
	x, g := parsed(t, text)
	p := hold(t, g, proc)
	var got []string
	for i, n := range g.Nodes {
		if n.Proc != proc || n.Kind == flow.Exit || n.Kind == flow.Fail {
			continue
		}
		var names []string
		for _, passed := range p.Chain(i) {
			names = append(names, label(x, g.Nodes[passed]))
		}
		got = append(got, strings.Join(names, " > "))
	}
	slices.Sort(got)
	slices.Sort(want)
	if !slices.Equal(got, want) {
		t.Errorf("%s\n%s\nnot\n%s", text, strings.Join(got, "\n"), strings.Join(want, "\n"))
	}
}

const (
	mainHead = "proc main() { var x int; var y int; var b bool; var a arr; var u fun; "
	mainTail = " } proc f(x int) int { return x; }"
)

// wantMain is wantChains of a main that has variables of all types.
func wantMain(t *testing.T, statements string, want ...string) {
	t.Helper()
	wantChains(t, mainHead+statements+mainTail, 0, want...)
}

// successors are what may come after a node, -1 for the End.
func successors(g flow.Graph, n int) []int {
	var out []int
	for k := range g.Nodes {
		if slices.Contains(g.Nodes[n].Next, k) || g.Nodes[n].Raise == k {
			out = append(out, k)
		}
	}
	if g.Nodes[n].Kind == flow.Exit || g.Nodes[n].Kind == flow.Fail {
		out = append(out, -1)
	}
	return out
}

// wantAccepted is what N1 asks of a graph and a procedure.
func wantAccepted(g flow.Graph, proc int) bool {
	if proc < 0 || proc >= len(g.Procs) {
		return false
	}
	for _, n := range g.Nodes {
		list := slices.Clone(n.Next)
		if n.Raise != -1 {
			list = append(list, n.Raise)
		}
		for _, k := range list {
			if k < 0 || k >= len(g.Nodes) || g.Nodes[k].Proc != n.Proc {
				return false
			}
		}
	}
	return !slices.Contains(ending(g, -2), false)
}

// ending tells of each node whether the End is reached from it without one node: from the End backwards, until nothing changes.
func ending(g flow.Graph, without int) []bool {
	ends := make([]bool, len(g.Nodes))
	for changed := true; changed; {
		changed = false
		for n := range slices.Backward(g.Nodes) {
			if !ends[n] && n != without && slices.ContainsFunc(successors(g, n), func(k int) bool { return k == -1 || ends[k] }) {
				ends[n], changed = true, true
			}
		}
	}
	return ends
}

// avoiding are the passed nodes of all: a node passes another one if without that one no End is reached.
func avoiding(g flow.Graph) map[[2]int]bool {
	passes := map[[2]int]bool{{-1, -1}: true}
	for b := range g.Nodes {
		ends := ending(g, b)
		for a := range g.Nodes {
			passes[[2]int{a, b}] = !ends[a] && g.Nodes[a].Proc == g.Nodes[b].Proc
			passes[[2]int{a, -1}] = true
		}
	}
	return passes
}

// walking is the same by the words of the definition: each sequence from a node to the End is walked. One that comes to a node twice has all the nodes of another one that doesn't, so that those are enough.
func walking(g flow.Graph) map[[2]int]bool {
	passes := map[[2]int]bool{{-1, -1}: true}
	for a := range g.Nodes {
		for b := range g.Nodes {
			passes[[2]int{a, b}] = g.Nodes[a].Proc == g.Nodes[b].Proc
		}
		passes[[2]int{a, -1}] = true
		walkAll(g, []int{a}, func(path []int) {
			for b := range g.Nodes {
				if !slices.Contains(path, b) {
					passes[[2]int{a, b}] = false
				}
			}
		})
	}
	return passes
}

func walkAll(g flow.Graph, path []int, found func(path []int)) {
	for _, k := range successors(g, path[len(path)-1]) {
		if k == -1 {
			found(path)
		} else if !slices.Contains(path, k) {
			walkAll(g, append(slices.Clone(path), k), found)
		}
	}
}

// wantNext is the Next of a node by its definition; it fails if there isn't just one.
func wantNext(t *testing.T, nodes []int, passes map[[2]int]bool, n int) int {
	t.Helper()
	var found []int
	for _, m := range append(slices.Clone(nodes), -1) {
		is := m != n && passes[[2]int{n, m}]
		for _, k := range append(slices.Clone(nodes), -1) {
			is = is && (k == n || !passes[[2]int{n, k}] || passes[[2]int{m, k}])
		}
		if is {
			found = append(found, m)
		}
	}
	if len(found) != 1 {
		t.Fatal("not one Next", n, found)
	}
	return found[0]
}

// small is how many nodes a graph may have whose sequences are walked one by one.
const small = 14

// hold holds all answers about a procedure of a graph that is accepted against the definition.
func hold(t *testing.T, g flow.Graph, proc int) *Post {
	t.Helper()
	passes := avoiding(g)
	if len(g.Nodes) <= small {
		if plain := walking(g); !equalPasses(plain, passes) {
			t.Fatalf("%v, %v of %v", plain, passes, g)
		}
	}
	p := made(t, g, proc)
	holdAnswers(t, g, proc, p, passes)
	holdN3(t, g, p)
	return p
}

func equalPasses(a, b map[[2]int]bool) bool {
	for pair, is := range a {
		if b[pair] != is {
			return false
		}
	}
	return len(a) == len(b)
}

func holdAnswers(t *testing.T, g flow.Graph, proc int, p *Post, passes map[[2]int]bool) {
	t.Helper()
	var nodes []int
	for i, n := range g.Nodes {
		if n.Proc == proc {
			nodes = append(nodes, i)
		}
	}
	if got := p.Nodes(); !slices.Equal(got, nodes) {
		t.Fatalf("nodes %v, not %v, of %d in %v", got, nodes, proc, g)
	}
	chains := map[int][]int{}
	for _, n := range nodes {
		for k := n; k != -1; k = wantNext(t, nodes, passes, k) {
			chains[n] = append(chains[n], k)
		}
	}
	for a := -3; a < len(g.Nodes)+3; a++ {
		chain, is := chains[a]
		next := -2
		if is {
			next = append(chain[1:len(chain):len(chain)], -1)[0]
		}
		if got := p.Next(a); got != next {
			t.Fatalf("Next of %d is %d, not %d, of %d in %v", a, got, next, proc, g)
		}
		if got := p.Chain(a); !slices.Equal(got, chain) || p.Depth(a) != len(chain) {
			t.Fatalf("Chain of %d is %v, not %v, Depth %d, of %d in %v", a, got, chain, p.Depth(a), proc, g)
		}
		for b := -3; b < len(g.Nodes)+3; b++ {
			_, isToo := chains[b]
			want := (is || a == -1) && (isToo || b == -1) && passes[[2]int{a, b}]
			if got := p.Passes(a, b); got != want {
				t.Fatalf("Passes of %d and %d is %v, of %d in %v", a, b, got, proc, g)
			}
			common := -1
			if i := slices.IndexFunc(chain, func(n int) bool { return slices.Contains(chains[b], n) }); i >= 0 {
				common = chain[i]
			}
			if got := p.Common(a, b); got != common {
				t.Fatalf("Common of %d and %d is %d, not %d, of %d in %v", a, b, got, common, proc, g)
			}
		}
	}
}

// holdN3 holds what follows, of what was answered alone.
func holdN3(t *testing.T, g flow.Graph, p *Post) {
	t.Helper()
	nodes := append(p.Nodes(), -1)
	for _, a := range nodes {
		if !p.Passes(a, a) || !p.Passes(a, -1) {
			t.Fatalf("%d doesn't pass itself, or the End: %v", a, g)
		}
		chain := p.Chain(a)
		for _, b := range nodes {
			if p.Passes(a, b) != (b == -1 || slices.Contains(chain, b)) {
				t.Fatalf("%d, %d: Passes is not what the Chain %v says: %v", a, b, chain, g)
			}
			if p.Passes(a, b) && p.Passes(b, a) && a != b {
				t.Fatalf("%d and %d pass each other: %v", a, b, g)
			}
			for _, c := range nodes {
				if p.Passes(a, b) && p.Passes(b, c) && !p.Passes(a, c) {
					t.Fatalf("%d passes %d, which passes %d: %v", a, b, c, g)
				}
			}
		}
		if a == -1 {
			continue
		}
		if after := successors(g, a); len(after) == 1 && !p.Passes(after[0], p.Next(a)) {
			t.Fatalf("the Next %d of %d isn't passed by its only successor %d: %v", p.Next(a), a, after[0], g)
		}
	}
}

// holdOrRefuse is hold where a graph and a procedure are to be accepted, and wants a refusal where they are not.
func holdOrRefuse(t *testing.T, g flow.Graph, proc int) bool {
	t.Helper()
	if wantAccepted(g, proc) {
		hold(t, g, proc)
		return true
	}
	if p, e := New(g, proc); p != nil || e != api.ErrArg {
		t.Fatalf("%v, %v of %d in %v", p, e, proc, g)
	}
	return false
}
