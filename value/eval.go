package value

import (
	"runnel/api"
	"runnel/types"
)

// Name is what a variable is worth.
type Name struct {
	Text string
	V    Value
}

// Eval is what an expression is worth, or what it raises.
func Eval(t api.Tree, place int, names []Name, h *Heap) (Value, int) {
	if place < 0 || place >= len(t.Nodes) || !isExpression(t.Nodes[place].Kind) {
		return Value{}, none
	}
	if _, e := types.Check(t); e != api.OK {
		return Value{}, none
	}
	return scene{t, names, h}.eval(place)
}

func isExpression(kind int) bool { return api.Const <= kind && kind <= api.Binary }

// scene is what expressions of a program without an error are evaluated with.
type scene struct {
	tree  api.Tree
	names []Name
	heap  *Heap
}

// operands are what the children of an expression are worth: it has two at most.
type operands [2]Value

// eval is what an expression is worth, or the first exception of it. Its children are all evaluated, even where an operator knows from the first of them what it makes, since the second one may raise.
func (s scene) eval(place int) (Value, int) {
	var kids operands
	for i, kid := range s.tree.Nodes[place].Kids {
		v, e := s.eval(kid)
		if e != none {
			return Value{}, e
		}
		kids[i] = v
	}
	return s.made(place, kids)
}

// made is what an expression makes of its operands, or what it raises itself.
func (s scene) made(place int, kids operands) (Value, int) {
	n := s.tree.Nodes[place]
	switch n.Kind {
	case api.Const:
		return number(n.N), none
	case api.Truth:
		return truth(n.N == 1), none
	case api.Var:
		return s.variable(n.Text), none
	case api.Index:
		return s.heap.Get(s.variable(n.Text), kids[0])
	case api.Length:
		return number(s.heap.Len(s.variable(n.Text))), none
	case api.Addr:
		return Value{api.Fun, 1 + types.Procedure(s.tree, n.Text)}, none
	}
	return s.operated(place, kids)
}

// operated is what an operator makes. Its operands may not fit, since a variable may have been handed a value of any kind.
func (s scene) operated(place int, kids operands) (Value, int) {
	n := s.tree.Nodes[place]
	var v Value
	var e int
	var ok bool
	if n.Kind == api.Unary {
		v, ok = Unary(n.Text, kids[0])
	} else {
		v, e, ok = Binary(n.Text, kids[0], kids[1])
	}
	if !ok {
		return Zero(types.Type(s.tree, place)), none
	}
	return v, e
}

// variable is what a variable is worth: the first value that is handed in for it, or nothing.
func (s scene) variable(name string) Value {
	for _, n := range s.names {
		if n.Text == name {
			return n.V
		}
	}
	return Value{}
}
