package flow

import (
	"runnel/api"
	"runnel/tree"
)

// raising tells of each node of a program whether it is an expression or a statement that may raise. A node stands behind those below it, so that one pass hands on what they may do; and only expressions hand it on, so that a statement doesn't raise for what is in its Blocks.
func raising(t api.Tree) []bool {
	parents := tree.Parents(t)
	raises := make([]bool, len(t.Nodes))
	for place, n := range t.Nodes {
		if raisesItself(n) {
			raises[place] = true
		}
		if raises[place] && isExpression(n.Kind) {
			raises[parents[place]] = true
		}
	}
	return raises
}

// raisesItself tells whether a node may raise whatever is below it.
func raisesItself(n api.Node) bool {
	switch n.Kind {
	case api.Index, api.Store, api.New, api.Call, api.Throw:
		return true
	case api.Binary:
		return n.Text == "/" || n.Text == "%"
	}
	return false
}

func isExpression(kind int) bool { return api.Const <= kind && kind <= api.Binary }
