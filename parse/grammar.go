package parse

import "runnel/api"

// The rows of the grammar, in its order. Each goes on behind what it reads and, if that has a node, answers the node's place. One token is always enough to tell which alternative it is, so that the first token that fits none is the first that cannot occur.

func (p *parser) program() {
	kids := p.vars(api.Global)
	for p.sees("proc") {
		kids = append(kids, p.proc())
	}
	p.end()
	p.add(api.Node{Kind: api.Program}, kids...)
}

// vars are the variables of a program or of a procedure.
func (p *parser) vars(kind int) []int {
	var places []int
	for p.sees("var") {
		at := p.take().At
		places = append(places, p.typed(kind, at))
		p.expect(";")
	}
	return places
}

func (p *parser) param() int { return p.typed(api.Param, p.token().At) }

// typed is a name and its type, of a declaration that begins at an offset.
func (p *parser) typed(kind, at int) int {
	name := p.name().Text
	return p.add(api.Node{Kind: kind, Text: name, N: p.typeWord(), At: at})
}

func (p *parser) typeWord() int {
	n := typeOf(p.token().Text)
	if n == api.None {
		panic(p.refuse(api.ErrForm))
	}
	p.take()
	return n
}

// typeOf is the type that a keyword names, None if it names none.
func typeOf(word string) int {
	switch word {
	case "int":
		return api.Int
	case "bool":
		return api.Bool
	case "arr":
		return api.Arr
	case "fun":
		return api.Fun
	}
	return api.None
}

func (p *parser) proc() int {
	at := p.expect("proc").At
	n := api.Node{Kind: api.Proc, Text: p.name().Text, At: at}
	kids := p.list(p.param)
	if !p.sees("{") {
		n.N = p.typeWord()
	}
	body := p.begin("{").At
	kids = append(kids, p.vars(api.Local)...)
	return p.add(n, append(kids, p.stmts(body))...)
}

// list is items in parentheses with commas between them, or none.
func (p *parser) list(item func() int) []int {
	var places []int
	p.begin("(")
	if !p.sees(")") {
		places = append(places, item())
	}
	for p.sees(",") {
		p.take()
		places = append(places, item())
	}
	p.finish(")")
	return places
}

func (p *parser) block() int { return p.stmts(p.begin("{").At) }

// stmts is the rest of a Block that began at an offset.
func (p *parser) stmts(at int) int {
	var kids []int
	for !p.sees("}") {
		kids = append(kids, p.stmt())
	}
	p.finish("}")
	return p.add(api.Node{Kind: api.Block, At: at}, kids...)
}

func (p *parser) stmt() int {
	if p.token().Kind == api.Name {
		return p.named()
	}
	switch p.token().Text {
	case "out":
		return p.out()
	case "if":
		return p.choice()
	case "while":
		at := p.take().At
		condition := p.expr()
		return p.add(api.Node{Kind: api.While, At: at}, condition, p.block())
	case "call":
		return p.ended(p.call("", p.token().At))
	case "return":
		return p.ended(p.answer())
	case "throw":
		at := p.take().At
		return p.ended(p.add(api.Node{Kind: api.Throw, At: at}, p.expr()))
	case "try":
		return p.attempt()
	}
	panic(p.refuse(api.ErrForm))
}

// ended is a statement with a semicolon behind it.
func (p *parser) ended(place int) int {
	p.expect(";")
	return place
}

// named is a statement that begins with the name of a variable.
func (p *parser) named() int {
	name := p.name()
	if p.sees("[") {
		index := p.index()
		p.expect("=")
		return p.ended(p.add(api.Node{Kind: api.Store, Text: name.Text, At: name.At}, index, p.expr()))
	}
	p.expect("=")
	return p.ended(p.rest(name))
}

// rest is what a variable gets.
func (p *parser) rest(name api.Token) int {
	n := api.Node{Kind: api.Assign, Text: name.Text, At: name.At}
	switch p.token().Text {
	case "in":
		p.take()
		n.Kind = api.In
		return p.add(n, p.namedLeaf(api.Chan))
	case "call":
		return p.call(name.Text, name.At)
	case "new":
		p.take()
		n.Kind = api.New
	}
	return p.add(n, p.expr())
}

func (p *parser) out() int {
	at := p.take().At
	channel := p.namedLeaf(api.Chan)
	return p.ended(p.add(api.Node{Kind: api.Out, At: at}, channel, p.expr()))
}

// choice is an if, with a second Block even if none is written.
func (p *parser) choice() int {
	at := p.take().At
	condition, first := p.expr(), p.block()
	if p.sees("else") {
		p.take()
		return p.add(api.Node{Kind: api.If, At: at}, condition, first, p.block())
	}
	second := p.add(api.Node{Kind: api.Block, At: at})
	return p.add(api.Node{Kind: api.If, At: at}, condition, first, second)
}

// call is a Call that begins at an offset, and gives its result to a variable, or to none.
func (p *parser) call(variable string, at int) int {
	p.expect("call")
	kids := []int{p.namedLeaf(api.Ref)}
	return p.add(api.Node{Kind: api.Call, Text: variable, At: at}, append(kids, p.list(p.expr)...)...)
}

// answer is a return without its semicolon.
func (p *parser) answer() int {
	n := api.Node{Kind: api.Return, At: p.take().At}
	if p.sees(";") {
		return p.add(n)
	}
	return p.add(n, p.expr())
}

func (p *parser) attempt() int {
	at := p.take().At
	first := p.block()
	p.expect("catch")
	name := p.name().Text
	return p.add(api.Node{Kind: api.Try, Text: name, At: at}, first, p.block())
}

// onlyExpr is an expression with nothing behind it.
func (p *parser) onlyExpr() {
	p.expr()
	p.end()
}

func (p *parser) expr() int { return p.binary(1) }

// binary is a row of binary operators, of expr (1) to mul (5), over operands of the row behind it.
func (p *parser) binary(row int) int {
	if row > 5 {
		return p.una()
	}
	left := p.binary(row + 1)
	for rowOf(p.token().Text) == row {
		sign := p.take()
		right := p.binary(row + 1)
		left = p.add(api.Node{Kind: api.Binary, Text: sign.Text, At: sign.At}, left, right)
	}
	return left
}

// rowOf is the row that a binary operator is of, 0 if a token is none.
func rowOf(sign string) int {
	switch sign {
	case "||":
		return 1
	case "&&":
		return 2
	case "==", "!=", "<", "<=", ">", ">=":
		return 3
	case "+", "-":
		return 4
	case "*", "/", "%":
		return 5
	}
	return 0
}

func (p *parser) una() int {
	t := p.token()
	switch {
	case t.Kind == api.Name:
		return p.variable()
	case t.Kind == api.Number:
		p.take()
		return p.add(api.Node{Kind: api.Const, N: t.N, At: t.At})
	}
	switch t.Text {
	case "-", "!":
		return p.signed()
	case "true", "false":
		return p.truth()
	case "len":
		return p.marked(api.Length)
	case "&":
		return p.marked(api.Addr)
	case "(":
		p.begin("(")
		place := p.expr()
		p.finish(")")
		return place
	}
	panic(p.refuse(api.ErrForm))
}

// signed is a sign and its operand. The sign is open until the operand is complete, which no token of its own tells.
func (p *parser) signed() int {
	sign := p.begin(p.token().Text)
	operand := p.una()
	p.open--
	return p.add(api.Node{Kind: api.Unary, Text: sign.Text, At: sign.At}, operand)
}

func (p *parser) truth() int {
	t := p.take()
	n := api.Node{Kind: api.Truth, At: t.At}
	if t.Text == "true" {
		n.N = 1
	}
	return p.add(n)
}

// variable is a variable, or an element of the array that it holds.
func (p *parser) variable() int {
	name := p.name()
	if p.sees("[") {
		return p.add(api.Node{Kind: api.Index, Text: name.Text, At: name.At}, p.index())
	}
	return p.add(api.Node{Kind: api.Var, Text: name.Text, At: name.At})
}

func (p *parser) index() int {
	p.begin("[")
	place := p.expr()
	p.finish("]")
	return place
}

// marked is a name behind the token that says what is asked of it.
func (p *parser) marked(kind int) int {
	at := p.take().At
	return p.add(api.Node{Kind: kind, Text: p.name().Text, At: at})
}

// namedLeaf is a node that is a name alone.
func (p *parser) namedLeaf(kind int) int {
	name := p.name()
	return p.add(api.Node{Kind: kind, Text: name.Text, At: name.At})
}
