package tree

import (
	"math"

	"runnel/api"
	"runnel/token"
)

// shape is what a kind requires of a node: of its Text, of its N (from least to most), and of the kinds of its children.
type shape struct {
	text        func(s string) bool
	least, most int
	kids        func(kinds []int) bool
}

// shaped tells whether a node of a sound tree has the shape of its kind.
func shaped(t api.Tree, place int) bool {
	n := t.Nodes[place]
	s, ok := shapeOf(n.Kind)
	if !ok {
		return false
	}
	kinds := make([]int, len(n.Kids))
	for i, kid := range n.Kids {
		kinds[i] = t.Nodes[kid].Kind
	}
	return s.text(n.Text) && s.least <= n.N && n.N <= s.most && s.kids(kinds)
}

// shapeOf is the chapter's table of shapes, a case a row; false for a kind that it doesn't have.
func shapeOf(kind int) (shape, bool) {
	value, block := one(isExpression), one(is(api.Block))
	switch kind {
	case api.Program:
		return shape{text: isEmpty, kids: row(many(is(api.Global)), many(is(api.Proc)))}, true
	case api.Global, api.Param, api.Local:
		return shape{text: token.Ident, least: api.Int, most: api.Fun, kids: row()}, true
	case api.Proc:
		return shape{text: token.Ident, most: api.Fun, kids: row(many(is(api.Param)), many(is(api.Local)), block)}, true
	case api.Block:
		return shape{text: isEmpty, kids: row(many(isStatement))}, true
	case api.Assign, api.New, api.Index:
		return shape{text: token.Ident, kids: row(value)}, true
	case api.Store:
		return shape{text: token.Ident, kids: row(value, value)}, true
	case api.In:
		return shape{text: token.Ident, kids: row(one(is(api.Chan)))}, true
	case api.Out:
		return shape{text: isEmpty, kids: row(one(is(api.Chan)), value)}, true
	case api.If:
		return shape{text: isEmpty, kids: row(value, block, block)}, true
	case api.While:
		return shape{text: isEmpty, kids: row(value, block)}, true
	case api.Call:
		return shape{text: isNameOrEmpty, kids: row(one(is(api.Ref)), many(isExpression))}, true
	case api.Return:
		return shape{text: isEmpty, kids: row(maybe(isExpression))}, true
	case api.Throw:
		return shape{text: isEmpty, kids: row(value)}, true
	case api.Try:
		return shape{text: token.Ident, kids: row(block, block)}, true
	case api.Chan, api.Ref, api.Var, api.Length, api.Addr:
		return shape{text: token.Ident, kids: row()}, true
	case api.Const:
		return shape{text: isEmpty, most: math.MaxInt, kids: row()}, true
	case api.Truth:
		return shape{text: isEmpty, most: 1, kids: row()}, true
	case api.Unary:
		return shape{text: isUnarySign, kids: row(value)}, true
	case api.Binary:
		return shape{text: isBinarySign, kids: row(value, value)}, true
	}
	return shape{}, false
}

// part is children that stand side by side: of which kind each of them is, and how many there may be.
type part struct {
	fits        func(kind int) bool
	least, most int
}

func one(fits func(kind int) bool) part { return part{fits, 1, 1} }

func maybe(fits func(kind int) bool) part { return part{fits, 0, 1} }

func many(fits func(kind int) bool) part { return part{fits, 0, math.MaxInt} }

// row answers what tells of the kinds of children whether they are these parts, one behind the other. A part takes all that it can: in no row of the table may the part behind it need what it took.
func row(parts ...part) func(kinds []int) bool {
	return func(kinds []int) bool {
		for _, p := range parts {
			taken := 0
			for taken < len(kinds) && taken < p.most && p.fits(kinds[taken]) {
				taken++
			}
			if taken < p.least {
				return false
			}
			kinds = kinds[taken:]
		}
		return len(kinds) == 0
	}
}

// is answers what tells whether a kind is the wanted one.
func is(wanted int) func(kind int) bool {
	return func(kind int) bool { return kind == wanted }
}

func isStatement(kind int) bool { return api.Assign <= kind && kind <= api.New }

func isExpression(kind int) bool { return api.Const <= kind && kind <= api.Binary }

func isEmpty(s string) bool { return s == "" }

func isNameOrEmpty(s string) bool { return s == "" || token.Ident(s) }

func isUnarySign(s string) bool { return s == "-" || s == "!" }

func isBinarySign(s string) bool {
	switch s {
	case "+", "-", "*", "/", "%", "==", "!=", "<", "<=", ">", ">=", "&&", "||":
		return true
	}
	return false
}
