package run

import (
	"fmt"
	"slices"
	"strings"
	"testing"

	"runnel/api"
	"runnel/flow"
	"runnel/parse"
	"runnel/print"
	"runnel/tree"
	"runnel/types"
	"runnel/value"
)

func leaf(kind int, text string, n int) api.Tree {
	return tree.Over(api.Node{Kind: kind, Text: text, N: n}, nil)
}

func over(kind int, text string, kids ...api.Tree) api.Tree {
	return tree.Over(api.Node{Kind: kind, Text: text}, kids)
}

func copied(t api.Tree) api.Tree {
	nodes := slices.Clone(t.Nodes)
	for i := range nodes {
		nodes[i].Kids = slices.Clone(nodes[i].Kids)
	}
	return api.Tree{Nodes: nodes, Root: t.Root}
}

// equalTrees holds all of two trees against each other; only nil and empty are the same.
func equalTrees(a, b api.Tree) bool {
	return a.Root == b.Root && slices.EqualFunc(a.Nodes, b.Nodes, func(x, y api.Node) bool {
		return x.Kind == y.Kind && x.N == y.N && x.At == y.At && x.Text == y.Text && slices.Equal(x.Kids, y.Kids)
	})
}

func equalArrays(a, b [][]int) bool { return slices.EqualFunc(a, b, slices.Equal) }

func equalFrames(a, b Frame) bool {
	return a.Proc == b.Proc && a.Node == b.Node && a.Answer == b.Answer && slices.Equal(a.Names, b.Names)
}

// equalConfigs holds all of two configurations against each other; only nil and empty are the same.
func equalConfigs(a, b Config) bool {
	return a.Status == b.Status && a.Exception == b.Exception && a.Steps == b.Steps &&
		slices.EqualFunc(a.Frames, b.Frames, equalFrames) && slices.Equal(a.Globals, b.Globals) && equalArrays(a.Arrays, b.Arrays) &&
		slices.Equal(a.Cursors, b.Cursors) && slices.Equal(a.Events, b.Events)
}

func copiedConfig(c Config) Config {
	c.Frames = slices.Clone(c.Frames)
	for i := range c.Frames {
		c.Frames[i].Names = slices.Clone(c.Frames[i].Names)
	}
	c.Arrays = slices.Clone(c.Arrays)
	for i := range c.Arrays {
		c.Arrays[i] = slices.Clone(c.Arrays[i])
	}
	c.Globals, c.Cursors, c.Events = slices.Clone(c.Globals), slices.Clone(c.Cursors), slices.Clone(c.Events)
	return c
}

// parsed is the tree of a program without an error.
func parsed(t *testing.T, text string) api.Tree {
	t.Helper()
	x, at, e := parse.Program(text)
	if e != api.OK {
		t.Fatalf("%q: %d, %v", text, at, e)
	}
	if place, e := types.Check(x); e != api.OK {
		t.Fatalf("%q: %d, %v", text, place, e)
	}
	return x
}

// begun is a machine at the beginning of a program without an error.
func begun(t *testing.T, text string, in ...Input) *Machine {
	t.Helper()
	m, e := New(parsed(t, text), in)
	if m == nil || e != api.OK {
		t.Fatalf("%q: %v, %v", text, m, e)
	}
	return m
}

func num(n int) value.Value { return value.Value{Kind: 1, N: n} }

func is(n int) value.Value { return value.Value{Kind: 2, N: n} }

func arr(n int) value.Value { return value.Value{Kind: 3, N: n} }

func fun(n int) value.Value { return value.Value{Kind: 4, N: n} }

// walked are the nodes of up to so many steps, with a > ahead of them for each frame below.
func walked(t *testing.T, x api.Tree, m *Machine, steps int) []string {
	t.Helper()
	g, e := flow.Build(x)
	if e != api.OK {
		t.Fatal(e)
	}
	var out []string
	for range steps {
		frames := m.Config().Frames
		if !m.Step() {
			break
		}
		out = append(out, strings.Repeat("> ", len(frames)-1)+line(x, g.Nodes[frames[len(frames)-1].Node]))
	}
	return out
}

// line is a node as a text.
func line(x api.Tree, n flow.Node) string {
	text := x.Nodes[n.At].Text
	switch {
	case n.Kind == flow.Entry:
		return "entry " + text
	case n.Kind == flow.Exit:
		return "exit " + text
	case n.Kind == flow.Fail:
		return "fail " + text
	case x.Nodes[n.At].Kind == api.Try:
		return "catch " + text
	}
	return print.Line(x, n.At)
}

// ended tells what a machine has written, how it ended, and after how many steps.
func ended(m *Machine) string {
	var out []string
	for _, e := range m.Events() {
		out = append(out, fmt.Sprint(e.Chan, " ", e.N))
	}
	c := m.Config()
	out = append(out, fmt.Sprint([]string{"running", "halted", "raised", "exhausted"}[c.Status], " ", c.Exception, " in ", c.Steps))
	return strings.Join(out, ", ")
}

// model runs a program along its tree, into the Blocks and out of them, where the machine goes along the nodes of the graph.
type model struct {
	nodes  []api.Node
	number map[int]int // by place of a statement, or of a Proc for its Entry: the number of its node in the graph
	procs  []int
	in     []Input
	now    Config
	trace  []Config // ahead of each step, and at the end
	limit  int
}

// ending is how a statement or a Block ends.
type ending struct{ kind, exception int }

const (
	through  = 0
	returned = 1
	raised   = 2
)

// enough is what a model panics with at the end of its trace.
type enough struct{}

// traced are the configurations of a run: the first one, and those after each step, of which there are so many at most.
func traced(x api.Tree, in []Input, limit int) (trace []Config) {
	m := &model{nodes: x.Nodes, number: map[int]int{}, in: in, limit: limit}
	defer func() {
		if e := recover(); e != nil && e != any(enough{}) {
			panic(e)
		}
		trace = m.trace
	}()
	m.prepare()
	m.whole()
	return m.trace
}

// prepare numbers the nodes: three for each Proc, and then one for each of its statements.
func (m *model) prepare() {
	count, waiting := 0, []int{}
	channels := map[string]bool{}
	for place, n := range m.nodes {
		switch {
		case n.Kind >= api.Assign && n.Kind <= api.New:
			waiting = append(waiting, place)
		case n.Kind == api.Proc:
			m.procs = append(m.procs, place)
			m.number[place] = count
			count += 3
			for _, statement := range waiting {
				m.number[statement] = count
				count++
			}
			waiting = nil
		case n.Kind == api.Global:
			m.now.Globals = append(m.now.Globals, value.Name{Text: n.Text, V: value.Value{Kind: n.N}})
		case n.Kind == api.Chan && !channels[n.Text]:
			channels[n.Text] = true
			m.now.Cursors = append(m.now.Cursors, Event{n.Text, 0})
		}
	}
	slices.SortFunc(m.now.Cursors, func(a, b Event) int { return strings.Compare(a.Chan, b.Chan) })
}

// whole runs the program to its end.
func (m *model) whole() {
	main := slices.IndexFunc(m.procs, func(p int) bool { return m.nodes[p].Text == "main" })
	_, end := m.procedure(main, nil)
	m.now.Status = 1
	if end.kind == raised {
		m.now.Status = 2
	}
	m.trace = append(m.trace, copiedConfig(m.now))
}

// tick begins the step of a node.
func (m *model) tick(node int) {
	m.frame().Node = node
	m.trace = append(m.trace, copiedConfig(m.now))
	if len(m.trace) > m.limit {
		panic(enough{})
	}
	m.now.Steps++
}

func (m *model) exhausted() {
	m.now.Status = 3
	m.trace = append(m.trace, copiedConfig(m.now))
	panic(enough{})
}

func (m *model) frame() *Frame { return &m.now.Frames[len(m.now.Frames)-1] }

func (m *model) raise(exception int) ending {
	m.now.Exception = exception
	return ending{raised, exception}
}

// procedure is a whole call: what it answers, and how it ends.
func (m *model) procedure(proc int, args []value.Value) (value.Value, ending) {
	place := m.procs[proc]
	f := Frame{Proc: proc, Answer: value.Value{Kind: m.nodes[place].N}}
	kids := m.nodes[place].Kids
	for i, kid := range kids[:len(kids)-1] {
		v := value.Value{Kind: m.nodes[kid].N}
		if i < len(args) {
			v = args[i]
		}
		f.Names = append(f.Names, value.Name{Text: m.nodes[kid].Text, V: v})
	}
	m.now.Frames = append(m.now.Frames, f)
	entry := m.number[place]
	m.tick(entry)
	end := m.block(kids[len(kids)-1])
	if end.kind == raised {
		m.tick(entry + 2)
	} else {
		m.tick(entry + 1)
	}
	answer := m.frame().Answer
	m.now.Frames = m.now.Frames[:len(m.now.Frames)-1]
	return answer, end
}

func (m *model) block(place int) ending {
	for _, kid := range m.nodes[place].Kids {
		if end := m.statement(kid); end.kind != through {
			return end
		}
	}
	return ending{}
}

func (m *model) statement(place int) ending {
	n := m.nodes[place]
	switch n.Kind {
	case api.Try:
		end := m.block(n.Kids[0])
		if end.kind != raised {
			return end
		}
		m.tick(m.number[place])
		m.put(n.Text, num(end.exception))
		m.now.Exception = 0
		return m.block(n.Kids[1])
	case api.While:
		for {
			m.tick(m.number[place])
			v, e := m.eval(n.Kids[0])
			if e != 0 {
				return m.raise(e)
			}
			if v.N == 0 {
				return ending{}
			}
			if end := m.block(n.Kids[1]); end.kind != through {
				return end
			}
		}
	}
	m.tick(m.number[place])
	return m.plain(n)
}

// plain is a statement but a Try or a While, after its tick.
func (m *model) plain(n api.Node) ending {
	vs := make([]value.Value, len(n.Kids))
	for i, kid := range n.Kids {
		if kind := m.nodes[kid].Kind; kind < api.Const {
			continue
		}
		v, e := m.eval(kid)
		if e != 0 {
			return m.raise(e)
		}
		vs[i] = v
	}
	switch n.Kind {
	case api.Assign:
		m.put(n.Text, vs[0])
	case api.Store:
		a := m.get(n.Text)
		if a.N == 0 {
			return m.raise(3)
		}
		if cells := m.now.Arrays[a.N-1]; vs[0].N < 0 || vs[0].N >= len(cells) {
			return m.raise(2)
		} else {
			cells[vs[0].N] = vs[1].N
		}
	case api.In:
		m.put(n.Text, num(m.read(m.nodes[n.Kids[0]].Text)))
	case api.Out:
		m.now.Events = append(m.now.Events, Event{m.nodes[n.Kids[0]].Text, vs[1].N})
	case api.If:
		return m.block(n.Kids[2-vs[0].N])
	case api.Call:
		return m.call(n, vs[1:])
	case api.Return:
		if len(n.Kids) > 0 {
			m.frame().Answer = vs[0]
		}
		return ending{kind: returned}
	case api.Throw:
		return m.raise(vs[0].N)
	case api.New:
		return m.array(n.Text, vs[0].N)
	}
	return ending{}
}

func (m *model) array(name string, length int) ending {
	if length < 0 || length > 65536 {
		return m.raise(4)
	}
	total := length + 1
	for _, cells := range m.now.Arrays {
		total += len(cells) + 1
	}
	if total > 262144 {
		m.exhausted()
	}
	m.now.Arrays = append(m.now.Arrays, make([]int, length))
	m.put(name, arr(len(m.now.Arrays)))
	return ending{}
}

func (m *model) call(n api.Node, args []value.Value) ending {
	name := m.nodes[n.Kids[0]].Text
	proc := slices.IndexFunc(m.procs, func(p int) bool { return m.nodes[p].Text == name })
	if v := m.find(name); v != nil {
		proc = slices.Index(m.procs, v.V.N-1)
		if v.V.N == 0 {
			return m.raise(5)
		}
	}
	if len(m.now.Frames) == 200 {
		m.exhausted()
	}
	answer, end := m.procedure(proc, args)
	if end.kind == raised {
		return end
	}
	if n.Text != "" {
		m.put(n.Text, answer)
	}
	return ending{}
}

func (m *model) read(channel string) int {
	var list []int
	for _, i := range slices.Backward(m.in) {
		if i.Chan == channel {
			list = i.L
		}
	}
	for i := range m.now.Cursors {
		if c := &m.now.Cursors[i]; c.Chan == channel {
			c.N++
			if c.N <= len(list) {
				return list[c.N-1]
			}
		}
	}
	return 0
}

// find is where a name's value is: the last one that is asked is the frame.
func (m *model) find(name string) *value.Name {
	var found *value.Name
	for _, list := range [][]value.Name{m.now.Globals, m.frame().Names} {
		for i := range list {
			if list[i].Text == name {
				found = &list[i]
			}
		}
	}
	return found
}

func (m *model) get(name string) value.Value { return m.find(name).V }

func (m *model) put(name string, v value.Value) {
	at := m.find(name)
	if at.V.Kind != v.Kind {
		panic("the model goes wrong")
	}
	at.V = v
}

// eval is what an expression is worth; an exception as soon as there is one.
func (m *model) eval(place int) (value.Value, int) {
	n := m.nodes[place]
	var kids []value.Value
	for _, kid := range n.Kids {
		v, e := m.eval(kid)
		if e != 0 {
			return v, e
		}
		kids = append(kids, v)
	}
	switch n.Kind {
	case api.Const:
		return num(n.N), 0
	case api.Truth:
		return is(n.N), 0
	case api.Var:
		return m.get(n.Text), 0
	case api.Addr:
		i := slices.IndexFunc(m.procs, func(p int) bool { return m.nodes[p].Text == n.Text })
		return fun(1 + m.procs[i]), 0
	case api.Index, api.Length:
		return m.cells(n, kids)
	case api.Unary:
		if n.Text == "-" {
			return num(-kids[0].N), 0
		}
		return is(1 - kids[0].N), 0
	}
	return binary(n.Text, kids[0].N, kids[1].N)
}

func (m *model) cells(n api.Node, kids []value.Value) (value.Value, int) {
	a := m.get(n.Text).N
	switch {
	case n.Kind == api.Length && a == 0:
		return num(0), 0
	case n.Kind == api.Length:
		return num(len(m.now.Arrays[a-1])), 0
	case a == 0:
		return num(0), 3
	case kids[0].N < 0 || kids[0].N >= len(m.now.Arrays[a-1]):
		return num(0), 2
	}
	return num(m.now.Arrays[a-1][kids[0].N]), 0
}

func binary(sign string, a, b int) (value.Value, int) {
	truth := map[string]bool{"==": a == b, "!=": a != b, "<": a < b, "<=": a <= b, ">": a > b, ">=": a >= b, "&&": a+b == 2, "||": a+b > 0}
	if yes, ok := truth[sign]; ok && yes {
		return is(1), 0
	} else if ok {
		return is(0), 0
	}
	switch sign {
	case "+":
		return num(a + b), 0
	case "-":
		return num(a - b), 0
	case "*":
		return num(a * b), 0
	}
	if b == 0 {
		return num(0), 1
	}
	if sign == "/" {
		return num(a / b), 0
	}
	return num(a % b), 0
}
