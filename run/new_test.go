package run

import (
	"fmt"
	"math"
	"slices"
	"strings"
	"testing"

	"runnel/api"
	"runnel/flow"
	"runnel/parse"
	"runnel/types"
	"runnel/value"
)

const example = "proc main() { var x int; x = in lo; out hi x + 1; out hi 1 / (x - 7); }"

// TestM1ChapterExample: the example of the chapter, each step of it.
func TestM1ChapterExample(t *testing.T) {
	x := parsed(t, example)
	m, e := New(x, []Input{{"lo", []int{7}}})
	if e != api.OK {
		t.Fatal(e)
	}
	if n := m.Run(100); n != 5 {
		t.Error(n)
	}
	if m.Status() != Raised || !slices.Equal(m.Events(), []Event{{"hi", 8}}) || m.Config().Exception != 1 {
		t.Error(ended(m))
	}
	m, _ = New(x, []Input{{"lo", []int{7}}})
	want := []string{"entry main", "x = in lo", "out hi x + 1", "out hi 1 / (x - 7)", "fail main"}
	if got := walked(t, x, m, 100); !slices.Equal(got, want) {
		t.Errorf("%q", got)
	}
}

// TestM1Numbers: the constants of the chapter.
func TestM1Numbers(t *testing.T) {
	if Running != 0 || Halted != 1 || Raised != 2 || Exhausted != 3 {
		t.Error(Running, Halted, Raised, Exhausted)
	}
}

// refusedTexts are programs with an error, of each sort that types.Check tells.
var refusedTexts = []string{
	"",
	"proc f() { }",
	"proc main(x int) { }",
	"proc main() int { return 1; }",
	"proc main() { y = 1; }",
	"proc main() { out lo y; }",
	"proc main() { var x int; x = true; }",
	"proc main() { var x int; var x int; }",
	"proc main() { var b bool; b = in lo; }",
	"proc main() { var b bool; try { } catch b { } }",
	"proc main() { var x int; x[0] = 1; }",
	"proc main() { var x int; x = new 1; }",
	"proc main() { if 1 { } }",
	"proc main() { while 0 { } }",
	"proc main() { throw true; }",
	"proc main() { call g(); }",
	"proc main() { call main(1); }",
	"proc main() { var x int; x = call main(); }",
	"proc main() { var x int; call x(1); }",
	"proc main() { return 1; }",
	"proc f() int { return; } proc main() { }",
	"proc main() { } proc main() { }",
	"var g int; var g int; proc main() { }",
	"var main int; proc main() { }",
}

// TestM1NewRefuses: no machine for a tree that Check does not accept, whatever is the matter with it.
func TestM1NewRefuses(t *testing.T) {
	in := []Input{{"lo", []int{1}}}
	refuse := func(x api.Tree) {
		t.Helper()
		if m, e := New(x, in); m != nil || e != api.ErrArg {
			t.Errorf("%v, %v of %v", m, e, x)
		}
	}
	for _, text := range refusedTexts {
		x, _, e := parse.Program(text)
		if e != api.OK {
			t.Fatal(text, e)
		}
		refuse(x)
	}
	refuse(api.Tree{})
	refuse(api.Tree{Root: -1})
	refuse(api.Tree{Root: math.MaxInt})
	refuse(leaf(api.Program, "", 0))
	refuse(leaf(api.Proc, "main", 0))
	refuse(over(api.Proc, "main", leaf(api.Block, "", 0)))
	refuse(over(api.Program, "", over(api.Proc, "main")))
	refuse(over(api.Program, "x", over(api.Proc, "main", leaf(api.Block, "", 0))))
	refuse(over(api.Program, "", over(api.Proc, "main", leaf(api.Block, "", 0)), leaf(api.Global, "g", 1)))
	expression, _, _ := parse.Expr("1 + 2")
	refuse(expression)
	if m, e := New(over(api.Program, "", over(api.Proc, "main", leaf(api.Block, "", 0))), in); m == nil || e != api.OK {
		t.Error(m, e)
	}
}

// TestM1NewOneFault: a program with one field of one node changed has a machine if and only if Check accepts it.
func TestM1NewOneFault(t *testing.T) {
	x := parsed(t, "var g int; proc f(x int) int { return -x; } proc main() { var a arr; var u fun; a = new 2; a[0] = 1; g = in lo; u = &f; g = call u(len a); if g < a[1] { out hi g; } while !true { } try { throw 1; } catch g { return; } }")
	refused, accepted := 0, 0
	for place := range x.Nodes {
		for _, change := range []func(n *api.Node){
			func(n *api.Node) { n.Text = "nobody" },
			func(n *api.Node) { n.Text = "g" },
			func(n *api.Node) { n.Text = "a" },
			func(n *api.Node) { n.Text = "" },
			func(n *api.Node) { n.Text = "==" },
			func(n *api.Node) { n.N = 0 },
			func(n *api.Node) { n.N = 1 },
			func(n *api.Node) { n.N = 9 },
			func(n *api.Node) { n.N = -1 },
			func(n *api.Node) { n.Kind = api.Var },
			func(n *api.Node) { n.Kind = api.Throw },
			func(n *api.Node) { n.Kids = append(n.Kids, place-1) },
			func(n *api.Node) { n.Kids = nil },
		} {
			y := copied(x)
			change(&y.Nodes[place])
			m, e := New(y, nil)
			if _, fault := types.Check(y); fault == api.OK {
				accepted++
				if m == nil || e != api.OK {
					t.Fatalf("%v of %v", e, y)
				}
				m.Run(100)
			} else {
				refused++
				if m != nil || e != api.ErrArg {
					t.Fatalf("%v, %v of %v", m, e, y)
				}
			}
		}
	}
	if refused < 300 || accepted < 100 {
		t.Error(refused, accepted)
	}
}

// TestM1Initially: the configuration in which a run begins.
func TestM1Initially(t *testing.T) {
	text := "var g int; var h fun; var k arr; var b bool; proc f(x int) int { x = in last; return x; } " +
		"proc main() { var y arr; var z bool; var u fun; var g int; out mid 1; y = new 3; z = true; g = in lo; h = &f; out lo len y; } proc last() { out B 1; }"
	x := parsed(t, text)
	g, _ := flow.Build(x)
	m, _ := New(x, []Input{{"lo", []int{4, 5}}, {"nobody", []int{6}}})
	want := Config{
		Frames:  []Frame{{Proc: 1, Node: g.Entry(1), Names: []value.Name{{Text: "y", V: arr(0)}, {Text: "z", V: is(0)}, {Text: "u", V: fun(0)}, {Text: "g", V: num(0)}}}},
		Globals: []value.Name{{Text: "g", V: num(0)}, {Text: "h", V: fun(0)}, {Text: "k", V: arr(0)}, {Text: "b", V: is(0)}},
		Cursors: []Event{{"B", 0}, {"last", 0}, {"lo", 0}, {"mid", 0}},
	}
	if got := m.Config(); !equalConfigs(got, want) {
		t.Errorf("%+v, not %+v", got, want)
	}
	if m.Status() != Running || len(m.Events()) != 0 {
		t.Error(m.Status(), m.Events())
	}
}

// TestM1InitiallySmall: a program with nothing but an empty main.
func TestM1InitiallySmall(t *testing.T) {
	for _, in := range [][]Input{nil, {}, {{}}, {{"", nil}, {"lo", []int{1}}}} {
		x := parsed(t, "proc main() { }")
		m, _ := New(x, in)
		if got := m.Config(); !equalConfigs(got, Config{Frames: []Frame{{}}}) {
			t.Errorf("%+v", got)
		}
		if got := walked(t, x, m, 9); !slices.Equal(got, []string{"entry main", "exit main"}) {
			t.Error(got)
		}
		if got := m.Config(); !equalConfigs(got, Config{Status: Halted, Steps: 2}) {
			t.Errorf("%+v", got)
		}
	}
}

// TestM1InitiallyRandom: the first configuration of random programs, told by the layers ahead.
func TestM1InitiallyRandom(t *testing.T) {
	g := newGrow(11)
	for range 200 {
		x := parsed(t, g.program(3))
		graph, _ := flow.Build(x)
		m, _ := New(x, g.inputs())
		place := types.Main(x)
		main := slices.Index(graph.Procs, place)
		want := Config{Frames: []Frame{{Proc: main, Node: graph.Entry(main)}}}
		for i, n := range x.Nodes {
			name := value.Name{Text: n.Text, V: value.Zero(n.N)}
			switch {
			case n.Kind == api.Global:
				want.Globals = append(want.Globals, name)
			case n.Kind == api.Local && types.Owner(x, i) == place:
				want.Frames[0].Names = append(want.Frames[0].Names, name)
			}
		}
		for _, channel := range types.Channels(x) {
			want.Cursors = append(want.Cursors, Event{Chan: channel})
		}
		if got := m.Config(); !equalConfigs(got, want) {
			t.Fatalf("%+v, not %+v", got, want)
		}
	}
}

// TestM1LargeProgram: a program of almost as many nodes as a tree may have runs as any other.
func TestM1LargeProgram(t *testing.T) {
	text := "proc main() { var x int; " + strings.Repeat("x = x + 1; ", 998) + "out lo x; }"
	x := parsed(t, text)
	if len(x.Nodes) != api.MaxNodes-1 {
		t.Fatal(len(x.Nodes))
	}
	m, _ := New(x, nil)
	if n := m.Run(math.MaxInt); n != 998+3 || fmt.Sprint(m.Events()) != "[{lo 998}]" || m.Status() != Halted {
		t.Error(n, ended(m))
	}
}
