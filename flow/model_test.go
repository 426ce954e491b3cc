package flow

import (
	"slices"
	"strconv"
	"strings"
	"testing"

	"runnel/api"
	"runnel/parse"
	"runnel/print"
	"runnel/tree"
	"runnel/types"
)

func leaf(kind int, text string, n int) api.Tree {
	return tree.Over(api.Node{Kind: kind, Text: text, N: n}, nil)
}

func over(kind int, text string, kids ...api.Tree) api.Tree {
	return tree.Over(api.Node{Kind: kind, Text: text}, kids)
}

func copied(t api.Tree) api.Tree {
	nodes := slices.Clone(t.Nodes)
	for i := range nodes {
		nodes[i].Kids = slices.Clone(nodes[i].Kids)
	}
	return api.Tree{Nodes: nodes, Root: t.Root}
}

// equalTrees holds all of two trees against each other; only nil and empty are the same.
func equalTrees(a, b api.Tree) bool {
	return a.Root == b.Root && slices.EqualFunc(a.Nodes, b.Nodes, func(x, y api.Node) bool {
		return x.Kind == y.Kind && x.N == y.N && x.At == y.At && x.Text == y.Text && slices.Equal(x.Kids, y.Kids)
	})
}

func copiedGraph(g Graph) Graph {
	nodes := slices.Clone(g.Nodes)
	for i := range nodes {
		nodes[i].Next = slices.Clone(nodes[i].Next)
	}
	return Graph{nodes, slices.Clone(g.Procs)}
}

func equalGraphs(a, b Graph) bool {
	return slices.Equal(a.Procs, b.Procs) && slices.EqualFunc(a.Nodes, b.Nodes, func(x, y Node) bool {
		return x.Kind == y.Kind && x.At == y.At && x.Proc == y.Proc && x.Raise == y.Raise && slices.Equal(x.Next, y.Next)
	})
}

// parsed is the tree of a program without an error.
func parsed(t *testing.T, text string) api.Tree {
	t.Helper()
	x, at, e := parse.Program(text)
	if e != api.OK {
		t.Fatalf("%q: %d, %v", text, at, e)
	}
	if place, e := types.Check(x); e != api.OK {
		t.Fatalf("%q: %d, %v", text, place, e)
	}
	return x
}

func built(t *testing.T, x api.Tree) Graph {
	t.Helper()
	g, e := Build(x)
	if e != api.OK {
		t.Fatal(e)
	}
	return g
}

// label is a node's name in a test: a statement's line (of a Try with its variable), or which end it is, with the procedure's name unless that is main.
func label(x api.Tree, n Node) string {
	if n.Kind == Step {
		if at := x.Nodes[n.At]; at.Kind == api.Try {
			return "try " + at.Text
		}
		return print.Line(x, n.At)
	}
	end := []string{"", "entry", "exit", "fail"}[n.Kind]
	if name := x.Nodes[n.At].Text; name != "main" {
		return end + " " + name
	}
	return end
}

// told are the nodes of a procedure, each as a line: where control goes from it.
func told(x api.Tree, g Graph, proc int) []string {
	var lines []string
	for _, n := range g.Nodes {
		if n.Proc != proc {
			continue
		}
		line := label(x, n) + " ->"
		for i, next := range n.Next {
			line += []string{" ", " | "}[min(i, 1)] + label(x, g.Nodes[next])
		}
		if n.Raise >= 0 {
			line += " ! " + label(x, g.Nodes[n.Raise])
		}
		lines = append(lines, line)
	}
	return lines
}

// wantLines wants these nodes of a procedure, in this order.
func wantLines(t *testing.T, text string, proc int, want ...string) {
	t.Helper()
	x := parsed(t, text)
	g := built(t, x)
	got := told(x, g, proc)
	for i := range max(len(got), len(want)) {
		if i >= len(got) || i >= len(want) || got[i] != want[i] {
			t.Errorf("%s\n%s\nnot\n%s", text, strings.Join(got, "\n"), strings.Join(want, "\n"))
			break
		}
	}
	hold(t, x)
}

const (
	mainHead = "var g int; proc main() { var x int; var y int; var b bool; var a arr; var u fun; "
	mainTail = " } proc f(x int) int { return x; } proc make(n int) arr { var a arr; a = new n; return a; }"
)

// wantMain wants these nodes, behind the ends, of a main that has variables of all types; the procedures that it may call stand behind it.
func wantMain(t *testing.T, statements, begin string, want ...string) {
	t.Helper()
	wantLines(t, mainHead+statements+mainTail, 0, append([]string{"entry -> " + begin, "exit ->", "fail ->"}, want...)...)
}

// The model asks from a statement upwards what follows it and what its handler is, where the program leads control from the top down.
type model struct {
	api.Tree
	parents []int
	numbers map[[2]int]int // by kind and place: the node
	want    Graph
}

func newModel(x api.Tree) model {
	m := model{Tree: x, parents: tree.Parents(x), numbers: map[[2]int]int{}}
	for place, n := range x.Nodes {
		if n.Kind == api.Proc {
			m.procedure(place)
		}
	}
	for i := range m.want.Nodes {
		n := &m.want.Nodes[i]
		n.Raise = -1
		switch n.Kind {
		case Entry:
			n.Next = []int{m.beginOfBlock(n.At - 1)}
		case Step:
			n.Next = m.next(n.At)
			if m.raises(n.At) {
				n.Raise = m.handler(n.At)
			}
		}
	}
	return m
}

// procedure gives numbers to the nodes of a Proc.
func (m *model) procedure(proc int) {
	number := len(m.want.Procs)
	m.want.Procs = append(m.want.Procs, proc)
	add := func(kind, at int) {
		m.numbers[[2]int{kind, at}] = len(m.want.Nodes)
		m.want.Nodes = append(m.want.Nodes, Node{Kind: kind, At: at, Proc: number})
	}
	add(Entry, proc)
	add(Exit, proc)
	add(Fail, proc)
	for place := range m.Nodes {
		if m.isStatement(place) && m.owner(place) == proc {
			add(Step, place)
		}
	}
}

func (m model) owner(place int) int {
	for m.Nodes[place].Kind != api.Proc {
		place = m.parents[place]
	}
	return place
}

// isStatement: a statement is what a Block has.
func (m model) isStatement(place int) bool {
	above := m.parents[place]
	return above >= 0 && m.Nodes[above].Kind == api.Block
}

func (m model) isExpression(place int) bool {
	return slices.Contains([]int{api.Const, api.Truth, api.Var, api.Index, api.Length, api.Addr, api.Unary, api.Binary}, m.Nodes[place].Kind)
}

func (m model) raises(place int) bool {
	if m.isExpression(place) {
		return slices.ContainsFunc(tree.Sub(m.Tree, place).Nodes, func(n api.Node) bool {
			return n.Kind == api.Index || n.Kind == api.Binary && strings.Contains("/%", n.Text)
		})
	}
	if !m.isStatement(place) {
		return false
	}
	if slices.Contains([]int{api.Store, api.New, api.Call, api.Throw}, m.Nodes[place].Kind) {
		return true
	}
	return slices.ContainsFunc(m.Nodes[place].Kids, func(kid int) bool { return m.isExpression(kid) && m.raises(kid) })
}

func (m model) step(place int) int { return m.numbers[[2]int{Step, place}] }

func (m model) next(place int) []int {
	n := m.Nodes[place]
	switch n.Kind {
	case api.If:
		return []int{m.beginOfBlock(n.Kids[1]), m.beginOfBlock(n.Kids[2])}
	case api.While:
		return []int{m.beginOfBlock(n.Kids[1]), m.follows(place)}
	case api.Try:
		return []int{m.beginOfBlock(n.Kids[1])}
	case api.Return:
		return []int{m.numbers[[2]int{Exit, m.owner(place)}]}
	case api.Throw:
		return nil
	}
	return []int{m.follows(place)}
}

func (m model) begin(place int) int {
	if m.Nodes[place].Kind == api.Try {
		return m.beginOfBlock(m.Nodes[place].Kids[0])
	}
	return m.step(place)
}

func (m model) beginOfBlock(block int) int {
	if kids := m.Nodes[block].Kids; len(kids) > 0 {
		return m.begin(kids[0])
	}
	return m.followsBlock(block)
}

func (m model) follows(place int) int {
	block := m.parents[place]
	kids := m.Nodes[block].Kids
	if i := slices.Index(kids, place) + 1; i < len(kids) {
		return m.begin(kids[i])
	}
	return m.followsBlock(block)
}

func (m model) followsBlock(block int) int {
	switch above := m.parents[block]; m.Nodes[above].Kind {
	case api.Proc:
		return m.numbers[[2]int{Exit, above}]
	case api.While:
		return m.step(above)
	default:
		return m.follows(above)
	}
}

func (m model) handler(place int) int {
	block := m.parents[place]
	above := m.parents[block]
	switch {
	case m.Nodes[above].Kind == api.Proc:
		return m.numbers[[2]int{Fail, above}]
	case m.Nodes[above].Kind == api.Try && m.Nodes[above].Kids[0] == block:
		return m.step(above)
	}
	return m.handler(above)
}

// hold holds a program without an error, and the graph of it, against the model and against F3.
func hold(t *testing.T, x api.Tree) Graph {
	t.Helper()
	g := built(t, x)
	m := newModel(x)
	if !equalGraphs(g, m.want) {
		t.Fatalf("%s\n%v\nnot\n%v", print.Program(x), g, m.want)
	}
	holdEnds(t, x, g)
	holdF3(t, x, g)
	return g
}

// holdRaises holds Raises of all nodes of a program without an error against the model.
func holdRaises(t *testing.T, x api.Tree) {
	t.Helper()
	m := newModel(x)
	for place := -3; place < len(x.Nodes)+3; place++ {
		want := 0 <= place && place < len(x.Nodes) && m.raises(place)
		if got := Raises(x, place); got != want {
			t.Fatalf("%s\nRaises at %d is %v", print.Program(x), place, got)
		}
	}
}

// holdEnds holds Entry, Exit, Fail and Of against the order of the nodes, as the chapter gives it.
func holdEnds(t *testing.T, x api.Tree, g Graph) {
	t.Helper()
	entries := []int{}
	of := make([]int, len(x.Nodes))
	for place := range of {
		of[place] = -1
	}
	for i, n := range g.Nodes {
		if i == 0 || n.Proc != g.Nodes[i-1].Proc {
			entries = append(entries, i)
		}
		if n.Kind == Step {
			of[n.At] = i
		}
	}
	if len(entries) != len(g.Procs) {
		t.Fatal(entries, g.Procs)
	}
	for proc := -2; proc < len(entries)+2; proc++ {
		want := [3]int{-1, -1, -1}
		if 0 <= proc && proc < len(entries) {
			want = [3]int{entries[proc], entries[proc] + 1, entries[proc] + 2}
		}
		if got := [3]int{g.Entry(proc), g.Exit(proc), g.Fail(proc)}; got != want {
			t.Fatal(proc, got, want)
		}
	}
	for place := -2; place < len(of)+2; place++ {
		want := -1
		if 0 <= place && place < len(of) {
			want = of[place]
		}
		if got := g.Of(place); got != want {
			t.Fatal(place, got, want)
		}
	}
}

// holdF3: control stays in a procedure and comes to an end of it, and each statement has one node.
func holdF3(t *testing.T, x api.Tree, g Graph) {
	t.Helper()
	ends := closing(g)
	for i, n := range g.Nodes {
		for _, after := range g.After(i) {
			if g.Nodes[after].Proc != n.Proc {
				t.Fatalf("control goes from %d to %d: %v", i, after, g)
			}
		}
		if !ends[i] {
			t.Fatalf("no end is reached from %d: %v", i, g)
		}
	}
	m := newModel(x)
	count := make([]int, len(x.Nodes))
	for _, n := range g.Nodes {
		if n.Kind == Step {
			count[n.At]++
		}
	}
	for place := range x.Nodes {
		if is := m.isStatement(place); is && count[place] != 1 || !is && count[place] != 0 {
			t.Fatalf("%d nodes of %d", count[place], place)
		}
	}
}

// closing tells of each node whether an end of its procedure is reached: backwards from the ends, until nothing changes.
func closing(g Graph) []bool {
	ends := make([]bool, len(g.Nodes))
	for changed := true; changed; {
		changed = false
		for i, n := range slices.Backward(g.Nodes) {
			is := n.Kind == Exit || n.Kind == Fail || n.Raise >= 0 && ends[n.Raise] || slices.ContainsFunc(n.Next, func(k int) bool { return ends[k] })
			if is && !ends[i] {
				ends[i], changed = true, true
			}
		}
	}
	return ends
}

// wantAfter is what After is: of each number of a graph whether it is among a node's Next, or is its Raise.
func wantAfter(g Graph, n int) []int {
	var want []int
	if n < 0 || n >= len(g.Nodes) {
		return want
	}
	for k := range g.Nodes {
		if slices.Contains(g.Nodes[n].Next, k) || g.Nodes[n].Raise == k {
			want = append(want, k)
		}
	}
	return want
}

// wantReach is what Reach is: steps are made from all that is reached, until nothing changes.
func wantReach(g Graph, from int) []int {
	if from < 0 || from >= len(g.Nodes) {
		return nil
	}
	reached := map[int]bool{from: true}
	for before := 0; before < len(reached); {
		before = len(reached)
		for n := range g.Nodes {
			for _, k := range wantAfter(g, n) {
				if reached[n] {
					reached[k] = true
				}
			}
		}
	}
	var want []int
	for n := range g.Nodes {
		if reached[n] {
			want = append(want, n)
		}
	}
	return want
}

// holdWays holds After and Reach of all numbers of a graph against ways of their own.
func holdWays(t *testing.T, g Graph) {
	t.Helper()
	for n := -3; n < len(g.Nodes)+3; n++ {
		if got, want := g.After(n), wantAfter(g, n); !slices.Equal(got, want) {
			t.Fatalf("After of %d is %v, not %v: %v", n, got, want, g)
		}
		if got, want := g.Reach(n), wantReach(g, n); !slices.Equal(got, want) {
			t.Fatalf("Reach of %d is %v, not %v: %v", n, got, want, g)
		}
	}
}

// fill puts texts in the place of the marks of a text: @ and a number.
func fill(text string, parts ...string) string {
	for i, part := range parts {
		text = strings.ReplaceAll(text, "@"+strconv.Itoa(i), part)
	}
	return text
}
