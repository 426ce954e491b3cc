package types

import (
	"slices"

	"runnel/api"
)

// fault is the first error of a node, by the columns of the chapter's table.
func (p program) fault(place int) api.Errno {
	switch {
	case p.isTaken(place):
		return api.ErrThere
	case p.isUnknown(place):
		return api.ErrName
	case p.isMistyped(place):
		return api.ErrType
	}
	return api.OK
}

// isTaken tells whether a node declares a name that another one has already.
func (p program) isTaken(place int) bool {
	n := p.nodes[place]
	if isDeclaration(n.Kind) {
		return p.declared[scoped{p.owners[place], n.Text}] != place
	}
	if n.Kind != api.Proc {
		return false
	}
	_, global := p.declared[scoped{none, n.Text}]
	return global || p.procedures[n.Text] != place
}

// isUnknown tells whether a name at a node is that of nothing.
func (p program) isUnknown(place int) bool {
	n := p.nodes[place]
	switch n.Kind {
	case api.Var, api.Index, api.Length, api.Assign, api.Store, api.New, api.In, api.Try:
		return p.denoted(place, n.Text) == none
	case api.Addr:
		return p.procedure(n.Text) == none
	case api.Call:
		callee := p.calleeName(place)
		if p.denoted(place, callee) == none && p.procedure(callee) == none {
			return true
		}
		return n.Text != "" && p.denoted(place, n.Text) == none
	}
	return false
}

// isMistyped tells whether a node whose names are known has the wrong types.
func (p program) isMistyped(place int) bool {
	n := p.nodes[place]
	switch n.Kind {
	case api.Index, api.Length, api.Store, api.New:
		return p.variable(place) != api.Arr || !p.areAll(n.Kids, api.Int)
	case api.Addr:
		return !p.isPlain(p.procedure(n.Text))
	case api.Unary, api.Binary:
		return !p.fitsSign(n)
	case api.Assign:
		return p.variable(place) != p.typeOf(n.Kids[0])
	case api.In, api.Try:
		return p.variable(place) != api.Int
	case api.Out:
		return p.typeOf(n.Kids[1]) != api.Int
	case api.Throw:
		return p.typeOf(n.Kids[0]) != api.Int
	case api.If, api.While:
		return p.typeOf(n.Kids[0]) != api.Bool
	case api.Call:
		return !p.fitsCall(place)
	case api.Return:
		return !p.fitsReturn(place)
	}
	return false
}

// areAll tells whether expressions are all of one type.
func (p program) areAll(places []int, wanted int) bool {
	for _, place := range places {
		if p.typeOf(place) != wanted {
			return false
		}
	}
	return true
}

// fitsSign tells whether the operands of an operator have the types that it takes.
func (p program) fitsSign(n api.Node) bool {
	switch n.Text {
	case "!", "&&", "||":
		return p.areAll(n.Kids, api.Bool)
	case "==", "!=":
		return p.areAll(n.Kids, api.Int) || p.areAll(n.Kids, api.Bool)
	}
	return p.areAll(n.Kids, api.Int)
}

// calleeName is the name that a Call calls.
func (p program) calleeName(place int) string {
	return p.nodes[p.nodes[place].Kids[0]].Text
}

// callee is the signature of what a Call calls; false if that is a variable that can't be called. A variable hides a procedure of its name.
func (p program) callee(place int) (signature, bool) {
	name := p.calleeName(place)
	d := p.denoted(place, name)
	if d == none {
		return p.signatureOf(p.procedure(name)), true
	}
	return plain(), p.nodes[d].N == api.Fun
}

// fitsCall tells whether a Call hands in what its callee takes, and takes what that answers. No variable is of the type None, so that none takes the answer of what has none.
func (p program) fitsCall(place int) bool {
	n := p.nodes[place]
	s, ok := p.callee(place)
	if !ok || !slices.Equal(p.typesOf(n.Kids[1:]), s.params) {
		return false
	}
	return n.Text == "" || p.variable(place) == s.result
}

// fitsReturn tells whether a Return answers what its procedure does.
func (p program) fitsReturn(place int) bool {
	result := p.nodes[p.owners[place]].N
	kids := p.nodes[place].Kids
	if len(kids) == 0 || result == api.None {
		return len(kids) == 0 && result == api.None
	}
	return p.typeOf(kids[0]) == result
}
