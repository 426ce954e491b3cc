package flow

import (
	"math"
	"slices"
	"strconv"
	"strings"
	"testing"

	"runnel/api"
	"runnel/tree"
)

func outside() []int {
	return []int{math.MinInt, math.MinInt + 1, -1 << 31, -3, -2, -1, 1 << 31, 1 << 62, math.MaxInt - 1, math.MaxInt}
}

// TestF2Numbers: Entry, Exit, Fail, Of, After and Reach at each number of a graph and at numbers outside it.
func TestF2Numbers(t *testing.T) {
	for _, text := range []string{
		"proc main() { }",
		"var g int; var h bool; proc main() { g = 1; }",
		"proc f(x int) int { return x; } proc main() { var x int; x = call f(x); out lo x; }",
		mainHead + "out lo 1; while b { try { x = 1 / x; if b { throw x; } } catch x { return; } } out lo 2;" + mainTail,
		mainHead + "return; throw 1; while true { } try { out lo 1; } catch y { x = 1; }" + mainTail,
	} {
		x := parsed(t, text)
		g := hold(t, x)
		holdWays(t, g)
		beyond := append(outside(), len(g.Nodes), len(g.Nodes)+1, len(x.Nodes), len(x.Nodes)+7)
		for _, n := range beyond {
			if l := g.Reach(n); n >= len(g.Nodes) && len(l) > 0 || n < 0 && len(l) > 0 {
				t.Error(n, l)
			}
			if l := g.After(n); (n >= len(g.Nodes) || n < 0) && len(l) > 0 {
				t.Error(n, l)
			}
			if n < 0 || n >= len(x.Nodes) {
				if g.Of(n) != -1 {
					t.Error(n, g.Of(n))
				}
			}
			if n < 0 || n >= len(g.Procs) {
				if g.Entry(n) != -1 || g.Exit(n) != -1 || g.Fail(n) != -1 {
					t.Error(n, g.Entry(n), g.Exit(n), g.Fail(n))
				}
			}
		}
		// The place of a Proc, of a Block and of an expression is not that of a statement.
		for place, n := range x.Nodes {
			if (n.Kind < api.Assign || n.Kind > api.New) && g.Of(place) != -1 {
				t.Error(place, g.Of(place))
			}
		}
	}
}

// TestF2Reach: what is reached from the nodes of some programs, by their lines.
func TestF2Reach(t *testing.T) {
	want := func(statements, from string, lines ...string) {
		t.Helper()
		x := parsed(t, mainHead+statements+mainTail)
		g := built(t, x)
		names := make([]string, len(g.Nodes))
		for i, n := range g.Nodes {
			names[i] = label(x, n)
		}
		var got []string
		for _, n := range g.Reach(slices.Index(names, from)) {
			got = append(got, names[n])
		}
		if !slices.Equal(got, lines) {
			t.Errorf("%s from %s: %q", statements, from, got)
		}
	}
	want("out lo 1; out lo 2;", "entry", "entry", "exit", "out lo 1", "out lo 2")
	want("out lo 1; out lo 2;", "out lo 2", "exit", "out lo 2")
	want("out lo 1; out lo 2;", "exit", "exit")
	want("out lo 1; out lo 2;", "fail", "fail")
	want("throw 1; out lo 2;", "entry", "entry", "fail", "throw 1")
	want("throw 1; out lo 2;", "out lo 2", "exit", "out lo 2")
	want("return; out lo 2;", "entry", "entry", "exit", "return")
	want("try { out lo 1; } catch x { out lo 2; }", "entry", "entry", "exit", "out lo 1")
	want("try { out lo 1; } catch x { out lo 2; }", "try x", "exit", "out lo 2", "try x")
	want("try { throw 1; } catch x { out lo 2; }", "entry", "entry", "exit", "throw 1", "out lo 2", "try x")
	want("try { throw 1; } catch x { throw 2; }", "entry", "entry", "fail", "throw 1", "throw 2", "try x")
	want("while true { out lo 1; }", "out lo 1", "exit", "out lo 1", "while true")
	want("while b { if x < 1 { return; } else { throw 2; } out lo 3; }", "while b", "exit", "fail", "return", "throw 2", "if x < 1", "while b")
	want("call f(1);", "call f(1)", "exit", "fail", "call f(1)") // a call doesn't lead into another procedure
	want("if b { out lo 1; } else { call f(1); } out lo 2;", "out lo 1", "exit", "out lo 1", "out lo 2")
}

// TestF2After: in increasing order, without duplicates, with the Raise if there is one.
func TestF2After(t *testing.T) {
	for _, row := range []struct {
		next  []int
		raise int
		want  []int
	}{
		{nil, -1, nil},
		{[]int{}, -1, nil},
		{nil, 2, []int{2}},
		{nil, 0, []int{0}},
		{[]int{1}, -1, []int{1}},
		{[]int{0}, -1, []int{0}},
		{[]int{1}, 2, []int{1, 2}},
		{[]int{2}, 1, []int{1, 2}},
		{[]int{2}, 0, []int{0, 2}},
		{[]int{1}, 1, []int{1}},
		{[]int{0}, 0, []int{0}},
		{[]int{2, 1}, -1, []int{1, 2}},
		{[]int{2, 2}, -1, []int{2}},
		{[]int{2, 1}, 0, []int{0, 1, 2}},
		{[]int{2, 0}, 1, []int{0, 1, 2}},
		{[]int{2, 1}, 2, []int{1, 2}},
		{[]int{1, 2}, 1, []int{1, 2}},
		{[]int{2, 2}, 2, []int{2}},
		{[]int{2, 1, 0}, 1, []int{0, 1, 2}},
	} {
		g := Graph{Nodes: []Node{{Kind: Step, Next: row.next, Raise: row.raise}, {Kind: Exit, Raise: -1}, {Kind: Fail, Raise: -1}}}
		if got := g.After(0); !slices.Equal(got, row.want) {
			t.Error(row, got)
		}
		holdWays(t, g)
	}
	// Of a program: an If both of whose Blocks are empty, a While whose Block is, and a statement that raises.
	x := parsed(t, mainHead+"if b { } while b { } a[0] = 1;"+mainTail)
	g := built(t, x)
	branch, while, store := g.Of(only(t, x, api.If)), g.Of(only(t, x, api.While)), g.Of(only(t, x, api.Store))
	if !slices.Equal(g.Nodes[branch].Next, []int{while, while}) || !slices.Equal(g.After(branch), []int{while}) {
		t.Error(g.Nodes[branch], g.After(branch))
	}
	if !slices.Equal(g.After(while), []int{while, store}) || !slices.Equal(g.After(store), []int{1, 2}) {
		t.Error(g.After(while), g.After(store))
	}
}

// TestF2RandomGraphs: After and Reach of graphs that no program has, with all sorts of ways between their nodes.
func TestF2RandomGraphs(t *testing.T) {
	r := newGrow(5)
	for range 400 {
		g := Graph{Nodes: make([]Node, 1+r.Intn(12))}
		for i := range g.Nodes {
			g.Nodes[i] = Node{Kind: Step, Raise: r.Intn(len(g.Nodes)+2) - 2}
			if g.Nodes[i].Raise < 0 {
				g.Nodes[i].Raise = -1
			}
			for range r.Intn(3) {
				g.Nodes[i].Next = append(g.Nodes[i].Next, r.Intn(len(g.Nodes)))
			}
		}
		holdWays(t, g)
	}
}

// TestF3 holds what follows for a program with each kind of statement in each Block, and for one that never ends.
func TestF3(t *testing.T) {
	all := "x = 1; a[0] = 1; x = in lo; out lo x; if b { } else { out lo 1; } while b { } call f(1); try { throw 1; } catch x { } a = new 1; "
	for _, text := range []string{all, "if b { " + all + "} else { " + all + "}", "while b { " + all + "}", "try { " + all + "} catch y { " + all + "}", all + "return; " + all, all + "throw 1; " + all, "while true { } " + all} {
		hold(t, parsed(t, mainHead+text+mainTail))
	}
	// A condition isn't asked what it is: a loop may end, though this one never does.
	g := hold(t, parsed(t, "proc f(x int) int { while true { throw x; } } proc main() { while true { } throw 1; } proc g() { while true { while true { } } }"))
	for proc, want := range [][]int{{0, 1, 2, 3, 4}, {5, 7, 8, 9}, {10, 11, 13, 14}} {
		if got := g.Reach(g.Entry(proc)); !slices.Equal(got, want) {
			t.Error(proc, got)
		}
	}
}

// TestWaysRangeOverAFunction: the nodes that are reached are gone through by a function, each once, and no further than is asked for.
func TestWaysRangeOverAFunction(t *testing.T) {
	g := built(t, parsed(t, mainHead+"while b { x = 1 / x; if b { throw 1; } } out lo 2;"+mainTail))
	for from := range g.Nodes {
		var all []int
		for n := range g.reached(from) {
			all = append(all, n)
		}
		if all[0] != from || len(all) != len(g.Reach(from)) {
			t.Error(from, all)
		}
		slices.Sort(all)
		if !slices.Equal(all, g.Reach(from)) {
			t.Error(from, all)
		}
		for most := 1; most < len(all); most++ {
			count := 0
			for range g.reached(from) {
				if count++; count == most {
					break
				}
			}
			if count != most {
				t.Error(from, count)
			}
		}
	}
	for _, from := range outside() {
		for n := range g.reached(from) {
			t.Error(from, n)
		}
	}
}

// TestLimits: a tree of 4000 nodes, and of one more.
func TestLimits(t *testing.T) {
	const stores = 1331
	statements := []api.Tree{over(api.In, "x", leaf(api.Chan, "lo", 0))}
	for range stores {
		statements = append(statements, over(api.Assign, "x", over(api.Index, "a", leaf(api.Const, "", 1))))
	}
	program := func(globals ...api.Tree) api.Tree {
		return over(api.Program, "", append(globals, over(api.Proc, "main", leaf(api.Local, "a", api.Arr), over(api.Block, "", statements...)))...)
	}
	x := program(leaf(api.Global, "x", api.Int))
	g := built(t, x)
	if len(x.Nodes) != api.MaxNodes || len(g.Nodes) != 4+stores || !equalGraphs(g, newModel(x).want) {
		t.Fatal(len(x.Nodes), len(g.Nodes))
	}
	last := len(g.Nodes) - 1
	if !slices.Equal(g.Reach(0), count(0, len(g.Nodes))) || !slices.Equal(g.Reach(4), count(1, len(g.Nodes), 0, 3)) || !slices.Equal(g.Reach(last), []int{1, 2, last}) {
		t.Error("reached is something else")
	}
	if g.Of(x.Root-3) != last || g.Of(3) != 3 || !Raises(x, x.Root-3) || !Raises(x, x.Root-4) || Raises(x, x.Root-5) || Raises(x, 3) {
		t.Error(g.Of(x.Root-3), g.Of(3))
	}
	wantRefused(t, "4001 nodes", program(leaf(api.Global, "x", api.Int), leaf(api.Global, "y", api.Int)))
}

// count are the numbers from one up to another, but for some.
func count(from, to int, without ...int) []int {
	var out []int
	for n := from; n < to; n++ {
		if !slices.Contains(without, n) {
			out = append(out, n)
		}
	}
	return out
}

func leafProc(name string) api.Tree { return over(api.Proc, name, over(api.Block, "")) }

// TestManyProcedures: as many as a tree has room for.
func TestManyProcedures(t *testing.T) {
	procs := []api.Tree{leafProc("main")}
	for n := 1; n < 1999; n++ {
		procs = append(procs, leafProc("p"+strconv.Itoa(n)))
	}
	x := over(api.Program, "", procs...)
	g := built(t, x)
	if len(x.Nodes) != 3999 || len(g.Procs) != 1999 || len(g.Nodes) != 3*1999 || !equalGraphs(g, newModel(x).want) {
		t.Fatal(len(x.Nodes), len(g.Procs), len(g.Nodes))
	}
	for _, proc := range []int{0, 1, 999, 1998} {
		entry := 3 * proc
		if g.Entry(proc) != entry || g.Exit(proc) != entry+1 || g.Fail(proc) != entry+2 || !slices.Equal(g.Reach(entry), []int{entry, entry + 1}) || g.Nodes[entry].At != 2*proc+1 {
			t.Error(proc, g.Nodes[entry])
		}
	}
	if g.Entry(1999) != -1 || g.Exit(1999) != -1 || g.Fail(1999) != -1 {
		t.Error("a procedure beyond the last one")
	}
}

// TestDeep: statements within one another as deep as a tree may be, of each kind that has Blocks.
func TestDeep(t *testing.T) {
	for _, frame := range []string{"if true { @ }", "if true { } else { @ }", "while true { @ }", "try { @ } catch x { }", "try { } catch x { @ }", "try { @ } catch x { throw 2; }"} {
		text := "throw x / 2;"
		// A Program, a Proc, its Block, and then a statement and its Block at a time, down to the Throw, its value and an operand.
		for range 17 {
			text = strings.ReplaceAll(frame, "@", text)
		}
		x := parsed(t, "proc main() { var x int; "+text+" }")
		if tree.Depth(x) != api.MaxDeep {
			t.Error(tree.Depth(x))
		}
		hold(t, x)
		holdRaises(t, x)
	}
}
