package flow

import (
	"slices"

	"runnel/api"
)

// builder makes the graph of a program without an error.
type builder struct {
	tree   []api.Node
	raises []bool // by node of the tree
	steps  []int  // by node of the tree: the graph's node of a statement
	graph  Graph
}

// course is where control may go from a statement: to what follows it, to its handler, to the Exit of its procedure.
type course struct {
	follow, handler, exit int
}

func build(t api.Tree) Graph {
	b := builder{tree: t.Nodes, raises: raising(t), steps: make([]int, len(t.Nodes))}
	first := 0
	for _, kid := range t.Nodes[t.Root].Kids {
		if t.Nodes[kid].Kind == api.Proc {
			b.procedure(first, kid)
		}
		first = kid + 1
	}
	return b.graph
}

// procedure adds the nodes of a Proc, below which are the places from first on. All of them have their numbers before control is led from one to another, since it may go either way.
func (b *builder) procedure(first, place int) {
	b.graph.Procs = append(b.graph.Procs, place)
	entry, exit, fail := b.add(Entry, place), b.add(Exit, place), b.add(Fail, place)
	for at := first; at < place; at++ {
		if isStatement(b.tree[at].Kind) {
			b.steps[at] = b.add(Step, at)
		}
	}
	kids := b.tree[place].Kids
	begin := b.block(kids[len(kids)-1], course{follow: exit, handler: fail, exit: exit})
	b.graph.Nodes[entry].Next = []int{begin}
}

// add adds a node to the last procedure, and answers its number.
func (b *builder) add(kind, at int) int {
	b.graph.Nodes = append(b.graph.Nodes, Node{Kind: kind, At: at, Proc: len(b.graph.Procs) - 1, Raise: none})
	return len(b.graph.Nodes) - 1
}

// block leads control through a Block, from its last statement on, since each one must know where the next one begins. It answers where the Block begins.
func (b *builder) block(place int, c course) int {
	for _, kid := range slices.Backward(b.tree[place].Kids) {
		c.follow = b.statement(kid, c)
	}
	return c.follow
}

// statement leads control out of a statement and through its Blocks. It answers where the statement begins.
func (b *builder) statement(place int, c course) int {
	n, self := b.tree[place], b.steps[place]
	begin, next := self, []int{c.follow}
	switch n.Kind {
	case api.If:
		next = []int{b.block(n.Kids[1], c), b.block(n.Kids[2], c)}
	case api.While:
		next = []int{b.block(n.Kids[1], course{self, c.handler, c.exit}), c.follow}
	case api.Try:
		begin = b.block(n.Kids[0], course{c.follow, self, c.exit})
		next = []int{b.block(n.Kids[1], c)}
	case api.Return:
		next = []int{c.exit}
	case api.Throw:
		next = nil
	}
	b.graph.Nodes[self].Next = next
	if b.raises[place] {
		b.graph.Nodes[self].Raise = c.handler
	}
	return begin
}

func isStatement(kind int) bool { return api.Assign <= kind && kind <= api.New }
