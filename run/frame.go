package run

import (
	"slices"

	"runnel/api"
	"runnel/value"
)

// last is the frame in which the machine is.
func (m *Machine) last() *Frame { return &m.frames[len(m.frames)-1] }

// open adds a frame of the Proc at a place, with the values of its Params.
func (m *Machine) open(place int, args []value.Value) {
	names := m.zeros(place)
	for i, v := range args {
		names[i].V = v
	}
	proc := slices.Index(m.graph.Procs, place)
	m.frames = append(m.frames, Frame{
		Proc:   proc,
		Node:   m.graph.Entry(proc),
		Answer: value.Zero(m.tree.Nodes[place].N),
		Names:  names,
	})
}

// shut removes the last frame, and answers it.
func (m *Machine) shut() Frame {
	f := *m.last()
	m.frames = m.frames[:len(m.frames)-1]
	return f
}

// zeros are the names that the Program or a Proc declares, with the values that they have at first.
func (m *Machine) zeros(place int) []value.Name {
	var names []value.Name
	for _, kid := range m.tree.Nodes[place].Kids {
		switch n := m.tree.Nodes[kid]; n.Kind {
		case api.Global, api.Param, api.Local:
			names = append(names, value.Name{Text: n.Text, V: value.Zero(n.N)})
		}
	}
	return names
}

// variable is where the value of a name is kept: in the last frame, or otherwise among the globals. It is nil for a name of a procedure alone.
func (m *Machine) variable(name string) *value.Value {
	for _, names := range [][]value.Name{m.last().Names, m.globals} {
		for i := range names {
			if names[i].Text == name {
				return &names[i].V
			}
		}
	}
	return nil
}

func (m *Machine) set(name string, v value.Value) { *m.variable(name) = v }

func (m *Machine) setNumber(name string, n int) { m.set(name, value.Value{Kind: api.Int, N: n}) }

// taken is the next number of the input of a channel, or 0 if there are no more of them. The cursor counts it either way.
func (m *Machine) taken(channel string) int {
	i := slices.IndexFunc(m.cursors, func(c Event) bool { return c.Chan == channel })
	at := m.cursors[i].N
	m.cursors[i].N++
	if at >= len(m.inputs[i]) {
		return 0
	}
	return m.inputs[i][at]
}
