package print

import (
	"strconv"
	"strings"

	"runnel/api"
)

// printer writes nodes that have their shapes, piece by piece. It is a value: what is printed within a Block has a printer of its own, and the one outside goes on as it was.
type printer struct {
	nodes  []api.Node
	write  func(pieces ...string)
	blocks int // in which the line lies that is being written
}

func (p printer) program(place int) {
	for _, kid := range p.nodes[place].Kids {
		if p.nodes[kid].Kind == api.Global {
			p.variable(kid)
		} else {
			p.proc(kid)
		}
	}
}

// variable is the line of a Global or of a Local.
func (p printer) variable(place int) {
	p.indent()
	p.write("var ")
	p.typed(place)
	p.write(";\n")
}

// typed is the name of a variable and its type.
func (p printer) typed(place int) {
	n := p.nodes[place]
	p.write(n.Text, " ", typeWord(n.N))
}

func typeWord(n int) string {
	switch n {
	case api.Int:
		return "int"
	case api.Bool:
		return "bool"
	case api.Arr:
		return "arr"
	}
	return "fun"
}

func (p printer) proc(place int) {
	n := p.nodes[place]
	var params, locals []int
	for _, kid := range n.Kids {
		switch p.nodes[kid].Kind {
		case api.Param:
			params = append(params, kid)
		case api.Local:
			locals = append(locals, kid)
		}
	}
	p.write("proc ", n.Text)
	p.list(params, p.typed)
	if n.N != api.None {
		p.write(" ", typeWord(n.N))
	}
	p.block(n.Kids[len(n.Kids)-1], locals...)
	p.write("\n")
}

// list is items in parentheses with commas between them.
func (p printer) list(places []int, item func(place int)) {
	p.write("(")
	for i, place := range places {
		if i > 0 {
			p.write(", ")
		}
		item(place)
	}
	p.write(")")
}

// block is what stands behind the line that a Block belongs to: its braces, with a procedure's Locals and its statements as lines between them. The line goes on behind it.
func (p printer) block(place int, locals ...int) {
	inside := p
	inside.blocks++
	p.write(" {\n")
	for _, local := range locals {
		inside.variable(local)
	}
	for _, kid := range p.nodes[place].Kids {
		inside.statement(kid)
	}
	p.indent()
	p.write("}")
}

func (p printer) indent() { p.write(strings.Repeat("  ", p.blocks)) }

// statement is a statement's line and all that belongs to it.
func (p printer) statement(place int) {
	n := p.nodes[place]
	p.indent()
	p.line(place)
	switch n.Kind {
	case api.If:
		p.block(n.Kids[1])
		if len(p.nodes[n.Kids[2]].Kids) > 0 {
			p.write(" else")
			p.block(n.Kids[2])
		}
	case api.While:
		p.block(n.Kids[1])
	case api.Try:
		p.block(n.Kids[0])
		p.write(" catch ", n.Text)
		p.block(n.Kids[1])
	default:
		p.write(";")
	}
	p.write("\n")
}

// line is a statement without its blocks and without a semicolon.
func (p printer) line(place int) {
	n := p.nodes[place]
	switch n.Kind {
	case api.Assign:
		p.write(n.Text, " = ")
		p.expr(n.Kids[0])
	case api.Store:
		p.element(n)
		p.write(" = ")
		p.expr(n.Kids[1])
	case api.In:
		p.write(n.Text, " = in ", p.nodes[n.Kids[0]].Text)
	case api.Out:
		p.write("out ", p.nodes[n.Kids[0]].Text, " ")
		p.expr(n.Kids[1])
	case api.If:
		p.write("if ")
		p.expr(n.Kids[0])
	case api.While:
		p.write("while ")
		p.expr(n.Kids[0])
	case api.Call:
		p.call(n)
	case api.Return:
		p.answer(n)
	case api.Throw:
		p.write("throw ")
		p.expr(n.Kids[0])
	case api.Try:
		p.write("try")
	case api.New:
		p.write(n.Text, " = new ")
		p.expr(n.Kids[0])
	}
}

func (p printer) call(n api.Node) {
	if n.Text != "" {
		p.write(n.Text, " = ")
	}
	p.write("call ", p.nodes[n.Kids[0]].Text)
	p.list(n.Kids[1:], p.expr)
}

// answer is a return, with a value or without one.
func (p printer) answer(n api.Node) {
	p.write("return")
	for _, value := range n.Kids {
		p.write(" ")
		p.expr(value)
	}
}

// element is the element of an array that a Store or an Index names.
func (p printer) element(n api.Node) {
	p.write(n.Text, "[")
	p.expr(n.Kids[0])
	p.write("]")
}

func (p printer) expr(place int) {
	n := p.nodes[place]
	switch n.Kind {
	case api.Const:
		p.write(strconv.Itoa(n.N))
	case api.Truth:
		p.write(strconv.FormatBool(n.N == 1))
	case api.Var:
		p.write(n.Text)
	case api.Index:
		p.element(n)
	case api.Length:
		p.write("len ", n.Text)
	case api.Addr:
		p.write("&", n.Text)
	case api.Unary:
		p.write(n.Text)
		p.operand(n.Kids[0])
	case api.Binary:
		p.operand(n.Kids[0])
		p.write(" ", n.Text, " ")
		p.operand(n.Kids[1])
	}
}

// operand is an expression below an operator: a Binary has parentheses there whatever the operators are, so that none needs to bind closer than another.
func (p printer) operand(place int) {
	if p.nodes[place].Kind != api.Binary {
		p.expr(place)
		return
	}
	p.write("(")
	p.expr(place)
	p.write(")")
}
