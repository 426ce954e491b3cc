package run

import (
	"slices"

	"runnel/api"
	"runnel/flow"
	"runnel/types"
	"runnel/value"
)

const (
	none   = 0  // the number of the exception that there is not
	nobody = -1 // the place of the procedure that a variable does not hold
)

// node is the current one of the last frame.
func (m *Machine) node() flow.Node { return m.graph.Nodes[m.last().Node] }

// step executes the current node.
func (m *Machine) step() {
	n := m.node()
	switch n.Kind {
	case flow.Entry:
		m.goOn()
	case flow.Exit:
		m.exit()
	case flow.Fail:
		m.fail()
	default:
		m.statement(m.tree.Nodes[n.At])
	}
}

func (m *Machine) goOn() { m.goTo(0) }

// goTo goes to one of the nodes that may come next.
func (m *Machine) goTo(way int) { m.last().Node = m.node().Next[way] }

// raise goes to the handler of the current node.
func (m *Machine) raise(exception int) {
	m.exception = exception
	m.last().Node = m.node().Raise
}

// exhaust ends the run where it is.
func (m *Machine) exhaust() { m.status = Exhausted }

// exit lets the Call of the frame below have the answer.
func (m *Machine) exit() {
	answer := m.shut().Answer
	if len(m.frames) == 0 {
		m.status = Halted
		return
	}
	if name := m.tree.Nodes[m.node().At].Text; name != "" {
		m.set(name, answer)
	}
	m.goOn()
}

// fail lets the Call of the frame below raise the exception.
func (m *Machine) fail() {
	m.shut()
	if len(m.frames) == 0 {
		m.status = Raised
		return
	}
	m.raise(m.exception)
}

// statement does what a statement does with the values of its expressions: none of them does anything ahead of these.
func (m *Machine) statement(s api.Node) {
	worth, e := m.worth(s.Kids)
	if e != none {
		m.raise(e)
		return
	}
	switch s.Kind {
	case api.If, api.While:
		m.branch(worth[0])
	case api.Store:
		m.store(s.Text, worth[0], worth[1])
	case api.New:
		m.array(s.Text, worth[0])
	case api.Call:
		m.call(m.tree.Nodes[s.Kids[0]].Text, worth)
	case api.Throw:
		m.raise(worth[0].N)
	default:
		m.simple(s, worth)
		m.goOn()
	}
}

// worth are the values of the expressions among the children of a statement, or what the first one raises that does.
func (m *Machine) worth(kids []int) ([]value.Value, int) {
	// Eval takes the first value of a name, which is that of the frame.
	names := slices.Concat(m.last().Names, m.globals)
	var out []value.Value
	for _, kid := range kids {
		if !isExpression(m.tree.Nodes[kid].Kind) {
			continue
		}
		v, e := value.Eval(m.tree, kid, names, &m.heap)
		if e != none {
			return nil, e
		}
		out = append(out, v)
	}
	return out, none
}

func isExpression(kind int) bool { return api.Const <= kind && kind <= api.Binary }

// simple does what a statement does that raises nothing but what its expressions raise, and goes one way.
func (m *Machine) simple(s api.Node, worth []value.Value) {
	switch s.Kind {
	case api.Assign:
		m.set(s.Text, worth[0])
	case api.In:
		m.setNumber(s.Text, m.taken(m.tree.Nodes[s.Kids[0]].Text))
	case api.Out:
		m.events = append(m.events, Event{m.tree.Nodes[s.Kids[0]].Text, worth[0].N})
	case api.Return:
		if len(worth) > 0 {
			m.last().Answer = worth[0]
		}
	case api.Try:
		m.setNumber(s.Text, m.exception)
		m.exception = none
	}
}

// branch goes the first way if a condition is true, and otherwise the second one.
func (m *Machine) branch(condition value.Value) {
	if condition.N != 0 {
		m.goTo(0)
	} else {
		m.goTo(1)
	}
}

func (m *Machine) store(name string, i, v value.Value) {
	if e := m.heap.Set(*m.variable(name), i, v); e != none {
		m.raise(e)
		return
	}
	m.goOn()
}

func (m *Machine) array(name string, length value.Value) {
	v, e, ok := m.heap.New(length.N)
	switch {
	case e != none:
		m.raise(e)
	case !ok:
		m.exhaust()
	default:
		m.set(name, v)
		m.goOn()
	}
}

// call opens a frame; the current node of the one below remains the Call until that frame is shut.
func (m *Machine) call(name string, args []value.Value) {
	callee := m.callee(name)
	switch {
	case callee == nobody:
		m.raise(value.Unset)
	case len(m.frames) >= api.MaxFrames:
		m.exhaust()
	default:
		m.open(callee, args)
	}
}

// callee is the place of the procedure that a name calls: that of the variable's value, or of this name.
func (m *Machine) callee(name string) int {
	if v := m.variable(name); v != nil {
		return v.N - 1
	}
	return types.Procedure(m.tree, name)
}
