package parse

import "runnel/api"

// parser goes through tokens, of which the last one is an End, and never past that.
type parser struct {
	tokens []api.Token
	next   int
	nodes  []api.Node // in postorder, since a node is added when all below it are
	open   int        // constructs that are open at the next token
	most   int        // and at any token so far
}

func (p *parser) token() api.Token { return p.tokens[p.next] }

// sees tells whether the next token is a keyword or an operator. Its Text tells: no token of another kind has the same.
func (p *parser) sees(text string) bool { return p.token().Text == text }

// take goes on behind the next token; whoever calls it has made sure that this one can occur.
func (p *parser) take() api.Token {
	t := p.token()
	p.next++
	return t
}

// expect goes on behind a keyword or an operator, the only token that can occur here.
func (p *parser) expect(text string) api.Token {
	if !p.sees(text) {
		panic(p.refuse(api.ErrForm))
	}
	return p.take()
}

// name goes on behind a name, the only token that can occur here.
func (p *parser) name() api.Token {
	if p.token().Kind != api.Name {
		panic(p.refuse(api.ErrForm))
	}
	return p.take()
}

func (p *parser) end() {
	if p.token().Kind != api.End {
		panic(p.refuse(api.ErrForm))
	}
}

// begin goes on behind an operator that opens a construct. That it can't occur at all comes ahead of that it is one too many.
func (p *parser) begin(text string) api.Token {
	if p.sees(text) && p.open == api.MaxDeep {
		panic(p.refuse(api.ErrDeep))
	}
	t := p.expect(text)
	p.open++
	p.most = max(p.most, p.open)
	return t
}

// finish goes on behind the operator that closes the construct that was opened last.
func (p *parser) finish(text string) {
	p.expect(text)
	p.open--
}

// refuse is the refusal of the next token.
func (p *parser) refuse(e api.Errno) refusal { return refusal{p.token().At, e} }

// add adds a node over those at the places of its kids, and answers its own place.
func (p *parser) add(n api.Node, kids ...int) int {
	n.Kids = kids
	p.nodes = append(p.nodes, n)
	return len(p.nodes) - 1
}
