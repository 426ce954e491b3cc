package rule

import (
	"math"
	"slices"
	"strings"
	"testing"

	"runnel/api"
	"runnel/flow"
)

const example = "proc main() { var x int; x = in lo; if x < 1 { out lo 1; } out lo 2; }"

// TestW2Example is the example of the chapter.
func TestW2Example(t *testing.T) {
	x, g := program(t, example)
	r := hold(t, g, 0)
	node := func(s string) int { return named(t, x, g, 0, s) }
	for s, want := range map[string]string{"x = in lo": "entry", "if x < 1": "entry", "out lo 2": "entry", "out lo 1": "if x < 1"} {
		if got := names(x, g, r.On(node(s))); got != want {
			t.Errorf("On of %s: %s", s, got)
		}
	}
	if got := names(x, g, r.All(node("out lo 1"))); got != "entry, if x < 1" {
		t.Error(got)
	}
	if got := names(x, g, r.Over(node("if x < 1"))); got != "out lo 1" {
		t.Error(got)
	}
	wantEdges(t, example, 0, "entry 0: exit, if x < 1, out lo 2, x = in lo", "if x < 1 0: out lo 1")
}

// TestW1Order: by From, by Way, by To, where the nodes of a chain go up and down.
func TestW1Order(t *testing.T) {
	x, g := program(t, "proc main() { var x int; if x < 1 / x { out lo 1; } else { while x < 2 { x = 3; } } }")
	var order []string
	for _, n := range g.Nodes {
		order = append(order, name(x, n))
	}
	if got := strings.Join(order, ", "); got != "entry, exit, fail, out lo 1, x = 3, while x < 2, if x < (1 / x)" {
		t.Fatal(got)
	}
	want := []Edge{{0, 0, 6}, {5, 0, 4}, {5, 0, 5}, {6, 0, 1}, {6, 0, 3}, {6, 1, 1}, {6, 1, 5}, {6, 2, 2}}
	if got := hold(t, g, 0).Edges(); !slices.Equal(got, want) {
		t.Error(got)
	}
}

// TestW1Straight: an Entry controls all that comes after it on the one way that there is.
func TestW1Straight(t *testing.T) {
	wantMain(t, "", "entry 0: exit")
	wantMain(t, "x = 1; out lo x; x = in lo; return;", "entry 0: exit, out lo x, return, x = 1, x = in lo")
	wantMain(t, "out lo 1; throw 1;", "entry 0: fail, out lo 1, throw 1")
	wantMain(t, "throw a[0];", "entry 0: fail, throw a[0]")
}

// TestW1If: Blocks that meet, and such that don't.
func TestW1If(t *testing.T) {
	wantMain(t, "if b { }", "entry 0: exit, if b")
	wantMain(t, "if b { } else { } out lo 1;", "entry 0: exit, if b, out lo 1")
	wantMain(t, "if b { out lo 1; } else { out lo 2; }", "entry 0: exit, if b", "if b 0: out lo 1", "if b 1: out lo 2")
	wantMain(t, "if b { } else { out lo 2; out lo 3; }", "entry 0: exit, if b", "if b 1: out lo 2, out lo 3")
	wantMain(t, "if b { return; } out lo 1;", "entry 0: exit, if b", "if b 0: return", "if b 1: out lo 1")
	wantMain(t, "if b { return; } else { return; } out lo 1;", "entry 0: exit, if b", "if b 0: return", "if b 1: return")
	wantMain(t, "if b { throw 1; } out lo 1;", "entry 0: if b", "if b 0: fail, throw 1", "if b 1: exit, out lo 1")
	wantMain(t, "if x / y < 1 { }", "entry 0: if (x / y) < 1", "if (x / y) < 1 0: exit", "if (x / y) < 1 1: exit", "if (x / y) < 1 2: fail")
	wantMain(t, "if b { if x < 1 { out lo 1; } out lo 2; } out lo 3;", "entry 0: exit, if b, out lo 3", "if b 0: if x < 1, out lo 2", "if x < 1 0: out lo 1")
	wantMain(t, "if b { if x < 1 { return; } out lo 2; } out lo 3;", "entry 0: exit, if b", "if b 0: if x < 1", "if b 1: out lo 3", "if x < 1 0: return", "if x < 1 1: out lo 2, out lo 3")
}

// TestW1While: a While controls its Block and, where it may be done again, itself.
func TestW1While(t *testing.T) {
	wantMain(t, "while b { }", "entry 0: exit, while b", "while b 0: while b")
	wantMain(t, "while b { out lo 1; } out lo 2;", "entry 0: exit, out lo 2, while b", "while b 0: out lo 1, while b")
	wantMain(t, "while b { return; } out lo 2;", "entry 0: exit, while b", "while b 0: return", "while b 1: out lo 2")
	wantMain(t, "while b { throw 1; }", "entry 0: while b", "while b 0: fail, throw 1", "while b 1: exit")
	wantMain(t, "while b { if x < 1 { return; } }", "entry 0: exit, while b", "while b 0: if x < 1", "if x < 1 0: return", "if x < 1 1: while b")
	wantMain(t, "while b { if x < 1 { out lo 1; } }", "entry 0: exit, while b", "while b 0: if x < 1, while b", "if x < 1 0: out lo 1")
	wantMain(t, "while b { while x < 1 { out lo 1; } out lo 2; } out lo 3;", "entry 0: exit, out lo 3, while b", "while b 0: out lo 2, while b, while x < 1", "while x < 1 0: out lo 1, while x < 1")
}

// TestW1Endless: loops that never end when they run have a way out all the same.
func TestW1Endless(t *testing.T) {
	wantMain(t, "while true { } out lo 2;", "entry 0: exit, out lo 2, while true", "while true 0: while true")
	wantMain(t, "while true { call f(1); } out lo 2;", "entry 0: while true", "while true 0: call f(1)", "while true 1: exit, out lo 2", "call f(1) 0: while true", "call f(1) 1: fail")
	wantMain(t, "while true { while b { out lo 1; } }", "entry 0: exit, while true", "while true 0: while b, while true", "while b 0: out lo 1, while b")
}

// TestW1Try: what is caught, and what is not.
func TestW1Try(t *testing.T) {
	wantMain(t, "try { throw 1; } catch x { out lo 1; } out lo 2;", "entry 0: exit, out lo 1, out lo 2, throw 1, try x")
	wantMain(t, "try { out lo 1; } catch x { out lo 2; } out lo 3;", "entry 0: exit, out lo 1, out lo 3")
	wantMain(t, "try { a[0] = 1; out lo 1; } catch x { out lo 2; } out lo 3;", "entry 0: a[0] = 1, exit, out lo 3", "a[0] = 1 0: out lo 1", "a[0] = 1 1: out lo 2, try x")
	wantMain(t, "try { a[0] = 1; } catch x { throw x; }", "entry 0: a[0] = 1", "a[0] = 1 0: exit", "a[0] = 1 1: fail, throw x, try x")
	wantMain(t, "try { if b { throw 1; } out lo 1; } catch x { out lo 2; } out lo 3;", "entry 0: exit, if b, out lo 3", "if b 0: out lo 2, throw 1, try x", "if b 1: out lo 1")
	wantMain(t, "while b { try { throw 1; } catch x { } }", "entry 0: exit, while b", "while b 0: throw 1, try x, while b")
	wantMain(t, "try { try { a[0] = 1; } catch x { throw 2; } } catch y { out lo 1; }", "entry 0: a[0] = 1, exit", "a[0] = 1 1: out lo 1, throw 2, try x, try y")
}

// TestW1Raises: each kind of statement that may raise controls what comes after it, and the handler.
func TestW1Raises(t *testing.T) {
	for _, s := range []string{"x = 1 / y", "a[0] = 1", "out lo a[0]", "call f(1)", "x = call f(1)", "y = call u(x)", "a = new 1"} {
		first := []string{s, "out lo 1"}
		slices.Sort(first)
		wantMain(t, "out lo 1; "+s+"; out lo 2;", "entry 0: "+strings.Join(first, ", "), s+" 0: exit, out lo 2", s+" 1: fail")
	}
	wantEdges(t, "proc main() { } proc f(x int) int { return x % 2; }", 1, "entry 0: return x % 2", "return x % 2 0: exit", "return x % 2 1: fail")
}

// TestW1Unreached: what control never comes to is not controlled by what comes ahead of it, but may control.
func TestW1Unreached(t *testing.T) {
	wantMain(t, "return; out lo 1; out lo 2;", "entry 0: exit, return")
	wantMain(t, "return; if b { out lo 1; }", "entry 0: exit, return", "if b 0: out lo 1")
	wantMain(t, "throw 1; while b { out lo 1; } a[0] = 1;", "entry 0: fail, throw 1", "while b 0: out lo 1, while b", "a[0] = 1 0: exit", "a[0] = 1 1: fail")
	x, g := program(t, mainHead+"return; if b { out lo 1; }"+mainTail)
	r := hold(t, g, 0)
	for s, want := range map[string]bool{"entry": true, "exit": false, "fail": true, "return": false, "if b": true, "out lo 1": false} {
		if r.Free(named(t, x, g, 0, s)) != want {
			t.Error(s)
		}
	}
}

// TestW2All: those that control, over others, and in a ring.
func TestW2All(t *testing.T) {
	x, g := program(t, mainHead+"if b { while x < 1 { if x < 2 { return; } out lo 1; } out lo 2; } out lo 3; call f(1); out lo 4;"+mainTail)
	r := hold(t, g, 0)
	for s, want := range map[string]string{
		"entry":       "",
		"if b":        "entry",
		"while x < 1": "entry, if b, if x < 2, while x < 1",
		"if x < 2":    "entry, if b, if x < 2, while x < 1",
		"return":      "entry, if b, if x < 2, while x < 1",
		"out lo 2":    "entry, if b, if x < 2, while x < 1",
		"out lo 3":    "entry, if b, if x < 2, while x < 1",
		"out lo 4":    "call f(1), entry, if b, if x < 2, while x < 1",
		"fail":        "call f(1), entry, if b, if x < 2, while x < 1",
	} {
		if got := names(x, g, r.All(named(t, x, g, 0, s))); got != want {
			t.Errorf("All of %s: %s, not %s", s, got, want)
		}
	}
}

// TestW2Numbers: the nodes of each procedure, and numbers that are none, among them the nodes of others.
func TestW2Numbers(t *testing.T) {
	x, g := program(t, "var g int; proc f(x int) int { while x < 5 { x = x + 1; } return x; } proc h() { } "+mainHead+"if b { x = call f(x); } out lo x; } proc k() { throw 1; }")
	for proc, want := range []string{"exit, return x, while x < 5", "exit", "if b", "fail, throw 1"} {
		r := hold(t, g, proc)
		if got := names(x, g, r.Over(g.Entry(proc))); got != want {
			t.Errorf("%d: %s, not %s", proc, got, want)
		}
		numbers := []int{math.MinInt, math.MinInt + 1, -4096, -2, -1, len(g.Nodes), len(g.Nodes) + 1, 4095, 4096, 1 << 31, 1 << 32, math.MaxInt - 1, math.MaxInt}
		for i, n := range g.Nodes {
			if n.Proc != proc {
				numbers = append(numbers, i)
			}
		}
		for _, n := range numbers {
			if len(r.On(n)) > 0 || len(r.Over(n)) > 0 || len(r.All(n)) > 0 || r.Free(n) {
				t.Error(proc, n, r.On(n), r.Over(n), r.All(n), r.Free(n))
			}
		}
		if !r.Free(g.Entry(proc)) {
			t.Error(proc, "the Entry is controlled")
		}
	}
}

// TestW1Procedures: numbers that are no procedure's.
func TestW1Procedures(t *testing.T) {
	_, g := program(t, "proc f(x int) int { return x; } proc main() { }")
	for _, proc := range []int{math.MinInt, -4096, -2, -1, 2, 3, 7, 1 << 31, 1 << 32, math.MaxInt} {
		refused(t, g, proc)
	}
	refused(t, flow.Graph{}, 0)
	refused(t, flow.Graph{Nodes: []flow.Node{exit()}}, 0)
	if r, e := New(g, 1); r == nil || e != api.OK {
		t.Error(e)
	}
}

// TestW3: what follows, of programs that control comes to all of, and of such as it doesn't.
func TestW3(t *testing.T) {
	all := "x = 1; a[0] = 1; x = in lo; out lo x; if b { } else { out lo 1; } while b { } call f(1); try { throw 1; } catch x { } a = new 1; "
	for _, text := range []string{all, "if b { " + all + "} else { " + all + "}", "while b { " + all + "}", "try { " + all + "} catch y { " + all + "} a[1] = 1;", "if b { " + all + " return; } throw x;"} {
		x, g := program(t, mainHead+text+mainTail)
		r := hold(t, g, 0)
		nodes := g.Reach(0)
		if len(nodes) != g.Entry(1) {
			t.Fatal("not all is reached", text)
		}
		controlling := 0
		for _, n := range nodes {
			if r.Free(n) != (n == 0) || slices.Contains(r.All(n), 0) != (n != 0) {
				t.Error(text, name(x, g.Nodes[n]), r.Free(n), r.All(n))
			}
			if len(r.Over(n)) > 0 {
				controlling++
				if n != 0 && len(g.After(n)) < 2 {
					t.Error(text, name(x, g.Nodes[n]), "controls something")
				}
			}
		}
		if controlling < 5 {
			t.Error(text, controlling)
		}
	}
	for _, text := range []string{all + "return; " + all, "throw 1; " + all, "while true { } " + all} {
		_, g := program(t, mainHead+text+mainTail)
		hold(t, g, 0)
	}
}
