package post

import (
	"math"
	"slices"
	"strings"
	"testing"

	"runnel/api"
	"runnel/flow"
)

// TestN2Example is the example of the chapter.
func TestN2Example(t *testing.T) {
	x, g := parsed(t, "proc main() { var x int; x = in lo; if x < 1 { out lo 1; } out lo 2; }")
	p := hold(t, g, 0)
	m := labels(x, g, 0)
	for from, next := range map[string]string{"x = in lo": "if x < 1", "if x < 1": "out lo 2", "out lo 1": "out lo 2", "out lo 2": "exit", "exit": "end", "entry": "x = in lo", "fail": "end"} {
		if got := p.Next(m[from]); got != m[next] {
			t.Errorf("Next of %s is %d, not %s", from, got, next)
		}
	}
	wantChains(t, "proc main() { var x int; x = in lo; if x < 1 { out lo 1; } out lo 2; }", 0,
		"entry > x = in lo > if x < 1 > out lo 2 > exit", "x = in lo > if x < 1 > out lo 2 > exit", "if x < 1 > out lo 2 > exit", "out lo 1 > out lo 2 > exit", "out lo 2 > exit")
}

// TestN2Straight: what has one way to go on.
func TestN2Straight(t *testing.T) {
	wantMain(t, "", "entry > exit")
	wantMain(t, "x = 1;", "entry > x = 1 > exit", "x = 1 > exit")
	wantMain(t, "x = 1; x = in lo; out lo x; return;", "entry > x = 1 > x = in lo > out lo x > return > exit", "x = 1 > x = in lo > out lo x > return > exit", "x = in lo > out lo x > return > exit", "out lo x > return > exit", "return > exit")
	wantMain(t, "throw 1;", "entry > throw 1 > fail", "throw 1 > fail")
	wantMain(t, "out lo 1; throw 1;", "entry > out lo 1 > throw 1 > fail", "out lo 1 > throw 1 > fail", "throw 1 > fail")
}

// TestN2Raises: each kind of statement that may raise goes on, or to the Fail, so that it passes nothing but itself.
func TestN2Raises(t *testing.T) {
	for _, statement := range []string{"x = 1 / y", "a[0] = 1", "out lo a[0]", "call f(1)", "x = call f(1)", "y = call u(x)", "a = new 1"} {
		wantMain(t, "out lo 1; "+statement+"; out lo 2;", "entry > out lo 1 > "+statement, "out lo 1 > "+statement, statement, "out lo 2 > exit")
		wantMain(t, "try { "+statement+"; out lo 1; } catch x { out lo 2; } out lo 3;",
			"entry > "+statement+" > out lo 3 > exit", statement+" > out lo 3 > exit", "out lo 1 > out lo 3 > exit", "try x > out lo 2 > out lo 3 > exit", "out lo 2 > out lo 3 > exit", "out lo 3 > exit")
	}
	wantChains(t, "proc main() { } proc f(x int) int { return x / 2; }", 1, "entry > return x / 2", "return x / 2")
	wantMain(t, "if a[0] < 1 { out lo 1; } out lo 2;", "entry > if a[0] < 1", "if a[0] < 1", "out lo 1 > out lo 2 > exit", "out lo 2 > exit")
	wantMain(t, "while a[0] < 1 { out lo 1; } out lo 2;", "entry > while a[0] < 1", "while a[0] < 1", "out lo 1 > while a[0] < 1", "out lo 2 > exit")
	wantMain(t, "throw a[0];", "entry > throw a[0] > fail", "throw a[0] > fail")
}

// TestN2If: Blocks that meet behind it, and such that don't.
func TestN2If(t *testing.T) {
	wantMain(t, "if b { }", "entry > if b > exit", "if b > exit")
	wantMain(t, "if b { out lo 1; } else { out lo 2; }", "entry > if b > exit", "if b > exit", "out lo 1 > exit", "out lo 2 > exit")
	wantMain(t, "if b { out lo 1; out lo 2; } else { } out lo 3;", "entry > if b > out lo 3 > exit", "if b > out lo 3 > exit", "out lo 1 > out lo 2 > out lo 3 > exit", "out lo 2 > out lo 3 > exit", "out lo 3 > exit")
	wantMain(t, "if b { return; } out lo 1;", "entry > if b > exit", "if b > exit", "return > exit", "out lo 1 > exit")
	wantMain(t, "if b { throw 1; } out lo 1;", "entry > if b", "if b", "throw 1 > fail", "out lo 1 > exit")
	wantMain(t, "if b { throw 1; } else { throw 2; } out lo 1;", "entry > if b > fail", "if b > fail", "throw 1 > fail", "throw 2 > fail", "out lo 1 > exit")
	wantMain(t, "if b { if x < 1 { out lo 1; } else { out lo 2; } out lo 3; } else { out lo 4; } out lo 5;",
		"entry > if b > out lo 5 > exit", "if b > out lo 5 > exit", "if x < 1 > out lo 3 > out lo 5 > exit", "out lo 1 > out lo 3 > out lo 5 > exit", "out lo 2 > out lo 3 > out lo 5 > exit", "out lo 3 > out lo 5 > exit", "out lo 4 > out lo 5 > exit", "out lo 5 > exit")
	wantMain(t, "if b { if x < 1 { return; } out lo 3; } else { out lo 4; } out lo 5;",
		"entry > if b > exit", "if b > exit", "if x < 1 > exit", "return > exit", "out lo 3 > out lo 5 > exit", "out lo 4 > out lo 5 > exit", "out lo 5 > exit")
}

// TestN2While: loops that end, that are left at once, and that never end when they run.
func TestN2While(t *testing.T) {
	wantMain(t, "while b { }", "entry > while b > exit", "while b > exit")
	wantMain(t, "while b { out lo 1; } out lo 2;", "entry > while b > out lo 2 > exit", "while b > out lo 2 > exit", "out lo 1 > while b > out lo 2 > exit", "out lo 2 > exit")
	wantMain(t, "while true { out lo 1; } out lo 2;", "entry > while true > out lo 2 > exit", "while true > out lo 2 > exit", "out lo 1 > while true > out lo 2 > exit", "out lo 2 > exit")
	wantMain(t, "while true { } out lo 2;", "entry > while true > out lo 2 > exit", "while true > out lo 2 > exit", "out lo 2 > exit")
	wantMain(t, "while b { return; } out lo 2;", "entry > while b > exit", "while b > exit", "return > exit", "out lo 2 > exit")
	wantMain(t, "while b { throw 1; }", "entry > while b", "while b", "throw 1 > fail")
	wantMain(t, "while true { call f(1); } out lo 2;", "entry > while true", "while true", "call f(1)", "out lo 2 > exit")
	wantMain(t, "while b { if x < 1 { return; } }", "entry > while b > exit", "while b > exit", "if x < 1 > exit", "return > exit")
	wantMain(t, "while b { if x < 1 { out lo 1; } else { out lo 2; } }", "entry > while b > exit", "while b > exit", "if x < 1 > while b > exit", "out lo 1 > while b > exit", "out lo 2 > while b > exit")
	wantMain(t, "while b { while x < 1 { out lo 1; } out lo 2; } out lo 3;", "entry > while b > out lo 3 > exit", "while b > out lo 3 > exit", "while x < 1 > out lo 2 > while b > out lo 3 > exit", "out lo 1 > while x < 1 > out lo 2 > while b > out lo 3 > exit", "out lo 2 > while b > out lo 3 > exit", "out lo 3 > exit")
}

// TestN2Try: what is caught in a procedure doesn't end it.
func TestN2Try(t *testing.T) {
	wantMain(t, "try { throw 1; } catch x { out lo 1; } out lo 2;", "entry > throw 1 > try x > out lo 1 > out lo 2 > exit", "throw 1 > try x > out lo 1 > out lo 2 > exit", "try x > out lo 1 > out lo 2 > exit", "out lo 1 > out lo 2 > exit", "out lo 2 > exit")
	wantMain(t, "try { out lo 1; } catch x { out lo 2; } out lo 3;", "entry > out lo 1 > out lo 3 > exit", "out lo 1 > out lo 3 > exit", "try x > out lo 2 > out lo 3 > exit", "out lo 2 > out lo 3 > exit", "out lo 3 > exit")
	wantMain(t, "try { a[0] = 1; } catch x { throw x; }", "entry > a[0] = 1", "a[0] = 1", "try x > throw x > fail", "throw x > fail")
	wantMain(t, "try { a[0] = 1; return; } catch x { } out lo 1;", "entry > a[0] = 1 > exit", "a[0] = 1 > exit", "return > exit", "try x > out lo 1 > exit", "out lo 1 > exit")
	wantMain(t, "try { if b { throw 1; } out lo 1; } catch x { out lo 2; } out lo 3;", "entry > if b > out lo 3 > exit", "if b > out lo 3 > exit", "throw 1 > try x > out lo 2 > out lo 3 > exit", "out lo 1 > out lo 3 > exit", "try x > out lo 2 > out lo 3 > exit", "out lo 2 > out lo 3 > exit", "out lo 3 > exit")
	wantMain(t, "try { try { throw 1; } catch x { throw 2; } } catch y { out lo 1; }", "entry > throw 1 > try x > throw 2 > try y > out lo 1 > exit", "throw 1 > try x > throw 2 > try y > out lo 1 > exit", "try x > throw 2 > try y > out lo 1 > exit", "throw 2 > try y > out lo 1 > exit", "try y > out lo 1 > exit", "out lo 1 > exit")
	wantMain(t, "while b { try { throw 1; } catch x { } }", "entry > while b > exit", "while b > exit", "throw 1 > try x > while b > exit", "try x > while b > exit")
}

// TestN2Unreached: what control never comes to passes what it would.
func TestN2Unreached(t *testing.T) {
	wantMain(t, "return; out lo 1; out lo 2;", "entry > return > exit", "return > exit", "out lo 1 > out lo 2 > exit", "out lo 2 > exit")
	wantMain(t, "throw 1; out lo 1;", "entry > throw 1 > fail", "throw 1 > fail", "out lo 1 > exit")
	wantMain(t, "throw 1; while b { out lo 1; } a[0] = 1;", "entry > throw 1 > fail", "throw 1 > fail", "while b > a[0] = 1", "out lo 1 > while b > a[0] = 1", "a[0] = 1")
	wantMain(t, "try { return; } catch x { while b { return; } throw 1; }", "entry > return > exit", "return > exit", "return > exit", "try x > while b", "while b", "throw 1 > fail")
}

// TestN2Common: by the names of nodes of a program.
func TestN2Common(t *testing.T) {
	x, g := parsed(t, mainHead+"if b { out lo 1; while x < 1 { out lo 2; } } else { if x < 2 { return; } out lo 3; } out lo 4; if x < 3 { throw 1; } out lo 5;"+mainTail)
	p, m := hold(t, g, 0), labels(x, g, 0)
	for pair, want := range map[string]string{
		"out lo 1,out lo 2":    "while x < 1",
		"out lo 1,while x < 1": "while x < 1",
		"out lo 1,out lo 3":    "out lo 4",
		"out lo 2,out lo 4":    "out lo 4",
		"out lo 3,out lo 3":    "out lo 3",
		"out lo 4,out lo 1":    "out lo 4",
		"out lo 1,if x < 3":    "if x < 3",
		// Those that meet at the End alone.
		"out lo 1,if b":     "end",
		"out lo 1,return":   "end",
		"throw 1,out lo 5":  "end",
		"if x < 2,out lo 4": "end",
		"if x < 3,exit":     "end",
		"exit,fail":         "end",
		"entry,fail":        "end",
		// And those of the ends.
		"return,out lo 5": "exit",
		"exit,out lo 5":   "exit",
		"throw 1,fail":    "fail",
		"fail,fail":       "fail",
		"entry,if b":      "if b",
		// The End is no node of the procedure.
		"end,end":  "end",
		"exit,end": "end",
		"end,fail": "end",
	} {
		a, b, _ := strings.Cut(pair, ",")
		one, is := m[a]
		other, isToo := m[b]
		if !is || !isToo {
			t.Fatal(pair)
		}
		if got := p.Common(one, other); got != m[want] {
			t.Errorf("Common of %s is %d, not %s", pair, got, want)
		}
		if got := p.Common(other, one); got != m[want] {
			t.Errorf("Common of %s the other way round is %d, not %s", pair, got, want)
		}
	}
}

// TestN2Passes: each node passes itself and the End; the End passes itself alone.
func TestN2Passes(t *testing.T) {
	_, g := parsed(t, mainHead+"while b { try { a[0] = 1; } catch x { return; } } throw 1; out lo 1;"+mainTail)
	p := hold(t, g, 0)
	for _, n := range p.Nodes() {
		if !p.Passes(n, n) || !p.Passes(n, -1) || p.Passes(-1, n) {
			t.Error(n, p.Passes(n, n), p.Passes(n, -1), p.Passes(-1, n))
		}
	}
	if !p.Passes(-1, -1) {
		t.Error("the End doesn't pass itself")
	}
	if p.Passes(g.Exit(0), g.Fail(0)) || p.Passes(g.Fail(0), g.Exit(0)) {
		t.Error("one end passes the other")
	}
}

// TestN2Numbers: numbers that are no node of the procedure, among them the nodes of others.
func TestN2Numbers(t *testing.T) {
	_, g := parsed(t, "proc f(x int) int { return x; } "+mainHead+"x = call f(x); out lo x; } proc h() { }")
	for proc := range g.Procs {
		p := hold(t, g, proc)
		numbers := []int{math.MinInt, math.MinInt + 1, -4097, -4096, -4095, -3, -2, -1, len(g.Nodes), len(g.Nodes) + 1, 4095, 4096, 4097, 1 << 31, 1 << 32, math.MaxInt - 1, math.MaxInt}
		for i, n := range g.Nodes {
			if n.Proc != proc {
				numbers = append(numbers, i)
			}
		}
		for _, n := range numbers {
			if p.Next(n) != -2 || len(p.Chain(n)) > 0 || p.Depth(n) != 0 {
				t.Error(n, p.Next(n), p.Chain(n), p.Depth(n))
			}
			if n != -1 && (p.Passes(n, n) || p.Passes(n, -1) || p.Passes(-1, n)) {
				t.Error(n, "passes, or is passed")
			}
			if p.Common(n, n) != -1 || p.Common(n, -1) != -1 || p.Common(-1, n) != -1 {
				t.Error(n, "has a Common")
			}
			for _, node := range p.Nodes() {
				if p.Passes(n, node) || n != -1 && p.Passes(node, n) || p.Common(n, node) != -1 || p.Common(node, n) != -1 {
					t.Error(n, node)
				}
			}
		}
	}
}

// TestN1Nodes: those of each procedure of a program, and of graphs whose procedures lie in one another.
func TestN1Nodes(t *testing.T) {
	_, g := parsed(t, "var g int; proc f(x int) int { return x; } proc h() { } proc main() { out lo 1; while true { } } proc k() { throw 1; }")
	for proc, want := range [][]int{{0, 1, 2, 3}, {4, 5, 6}, {7, 8, 9, 10, 11}, {12, 13, 14, 15}} {
		if got := hold(t, g, proc).Nodes(); !slices.Equal(got, want) {
			t.Error(proc, got)
		}
	}
	g = graph(of(1, step(3)), of(0, exit()), of(2, step(5, 7)), of(1, fail()), of(0, step(1)), of(2, step(7)), of(0, step(4, 1)), of(2, exit()))
	for proc, want := range [][]int{{1, 4, 6}, {0, 3}, {2, 5, 7}} {
		if got := hold(t, g, proc).Nodes(); !slices.Equal(got, want) {
			t.Error(proc, got)
		}
	}
	// Procedures without nodes.
	for _, g := range []flow.Graph{{Procs: []int{0}}, {Nodes: []flow.Node{of(1, exit())}, Procs: []int{0, 0}}, {Nodes: []flow.Node{of(-1, exit()), of(2, exit()), of(2, step(1)), of(math.MaxInt, fail())}, Procs: []int{0, 0}}} {
		if p := hold(t, g, 0); len(p.Nodes()) != 0 || p.Next(0) != -2 || !p.Passes(-1, -1) || p.Passes(0, -1) || p.Common(-1, -1) != -1 {
			t.Error(p)
		}
	}
}

// TestN1Procedures: numbers that are no procedure's.
func TestN1Procedures(t *testing.T) {
	_, g := parsed(t, "proc f(x int) int { return x; } proc main() { }")
	for _, proc := range []int{math.MinInt, -4096, -2, -1, 2, 3, 4, 7, 1 << 31, 1 << 32, math.MaxInt} {
		if p, e := New(g, proc); p != nil || e != api.ErrArg {
			t.Error(proc, p, e)
		}
	}
	for _, g := range []flow.Graph{{}, {Nodes: []flow.Node{exit()}}, {Nodes: []flow.Node{exit(), of(1, exit())}, Procs: []int{3}}} {
		if p, e := New(g, len(g.Procs)); p != nil || e != api.ErrArg {
			t.Error(g, p, e)
		}
	}
	// A number is one if it is that of an element of Procs, whatever that says.
	for _, g := range []flow.Graph{{Nodes: []flow.Node{of(2, exit())}, Procs: []int{-1, math.MaxInt, 5}}} {
		for proc := range g.Procs {
			hold(t, g, proc)
		}
	}
}

// TestN3: what follows, of a program with each kind of statement in each Block, and of graphs that no program has.
func TestN3(t *testing.T) {
	all := "x = 1; a[0] = 1; x = in lo; out lo x; if b { } else { out lo 1; } while b { } call f(1); try { throw 1; } catch x { } a = new 1; "
	only := 0
	for _, text := range []string{all, "if b { " + all + "} else { " + all + "}", "while b { " + all + "}", "try { " + all + "} catch y { " + all + "}", all + "return; " + all, all + "throw 1; " + all, "while true { } " + all} {
		_, g := parsed(t, mainHead+text+mainTail)
		p := hold(t, g, 0)
		for _, n := range p.Nodes() {
			// It is the successor itself, since nothing lies between the two.
			if after := g.After(n); len(after) == 1 {
				only++
				if p.Next(n) != after[0] {
					t.Error(text, n, p.Next(n), after)
				}
			}
		}
	}
	if only < 50 {
		t.Error(only)
	}
	// Where what comes next leads back, and where an end leads on, so that the End is a second successor.
	for _, nodes := range [][]flow.Node{{step(1), step(0, 2), exit()}, {step(1), step(2), step(0, 3), fail()}, {last(flow.Exit, 1), step(0)}} {
		hold(t, graph(nodes...), 0)
	}
}
