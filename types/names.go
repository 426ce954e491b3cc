package types

import (
	"slices"

	"runnel/api"
	"runnel/tree"
)

const (
	none     = -1 // the place of what there is not
	mainName = "main"
)

// program is a valid tree and what its names denote.
type program struct {
	nodes      []api.Node
	owners     []int // by node: its Proc, or none
	declared   map[scoped]int
	procedures map[string]int
}

// scoped is a name within its owner; that of a Global is none.
type scoped struct {
	owner int
	name  string
}

// signature is what a call takes and what it answers.
type signature struct {
	params []int
	result int
}

// read finds out what a tree's names denote. Of a tree that is not valid there is nothing: no nodes, and no names.
func read(t api.Tree) program {
	p := program{declared: map[scoped]int{}, procedures: map[string]int{}}
	if !tree.Right(t) {
		return p
	}
	p.nodes = t.Nodes
	p.owners = make([]int, len(t.Nodes))
	owner := none
	// From the last node on, since a Proc stands behind all that is below it; and so the first one of a name is stored last, and stays.
	for place, n := range slices.Backward(t.Nodes) {
		switch n.Kind {
		case api.Global:
			owner = none
		case api.Proc:
			owner = place
			p.procedures[n.Text] = place
		}
		p.owners[place] = owner
		if isDeclaration(n.Kind) {
			p.declared[scoped{owner, n.Text}] = place
		}
	}
	return p
}

func isDeclaration(kind int) bool {
	return kind == api.Global || kind == api.Param || kind == api.Local
}

// isNothing tells whether the tree was not valid: a valid one has a root at least.
func (p program) isNothing() bool { return len(p.nodes) == 0 }

func (p program) has(place int) bool { return 0 <= place && place < len(p.nodes) }

// denoted is the declaration that a name denotes at a node, or none.
func (p program) denoted(place int, name string) int {
	owner := p.owners[place]
	if owner == none {
		return none
	}
	if d, ok := p.declared[scoped{owner, name}]; ok {
		return d
	}
	if d, ok := p.declared[scoped{none, name}]; ok {
		return d
	}
	return none
}

// procedure is the first Proc of a name, or none.
func (p program) procedure(name string) int {
	if proc, ok := p.procedures[name]; ok {
		return proc
	}
	return none
}

// signatureOf is the signature of a Proc.
func (p program) signatureOf(proc int) signature {
	s := signature{result: p.nodes[proc].N}
	for _, kid := range p.nodes[proc].Kids {
		if p.nodes[kid].Kind == api.Param {
			s.params = append(s.params, p.nodes[kid].N)
		}
	}
	return s
}

func (s signature) same(other signature) bool {
	return s.result == other.result && slices.Equal(s.params, other.params)
}

// plain is the signature of plain procedures, and so of what a Fun holds.
func plain() signature { return signature{params: []int{api.Int}, result: api.Int} }

func (p program) isPlain(proc int) bool { return p.signatureOf(proc).same(plain()) }

// hasMain tells whether there is a main that takes and answers nothing.
func (p program) hasMain() bool {
	proc := p.procedure(mainName)
	return proc != none && p.signatureOf(proc).same(signature{})
}

// variable is the type of the variable that a node's Text denotes, or None if it denotes nothing.
func (p program) variable(place int) int {
	d := p.denoted(place, p.nodes[place].Text)
	if d == none {
		return api.None
	}
	return p.nodes[d].N
}

// typeOf is the type of an expression, which its operands don't change, or None of what is none.
func (p program) typeOf(place int) int {
	n := p.nodes[place]
	switch n.Kind {
	case api.Const, api.Index, api.Length:
		return api.Int
	case api.Truth:
		return api.Bool
	case api.Var:
		return p.variable(place)
	case api.Addr:
		return api.Fun
	case api.Unary, api.Binary:
		return signType(n.Text)
	}
	return api.None
}

// signType is the type of what an operator makes, with one operand or two.
func signType(sign string) int {
	switch sign {
	case "+", "-", "*", "/", "%":
		return api.Int
	}
	return api.Bool
}

// typesOf are the types of expressions.
func (p program) typesOf(places []int) []int {
	types := make([]int, len(places))
	for i, place := range places {
		types[i] = p.typeOf(place)
	}
	return types
}
