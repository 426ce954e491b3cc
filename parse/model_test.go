package parse

import (
	"regexp"
	"slices"
	"strconv"
	"strings"

	"runnel/api"
	"runnel/token"
)

// The model of the parser has three parts that share nothing with it: which token is the first that cannot occur is told by the chapter's grammar itself, by sets of all the rules that may be under way (Earley's); which constructs are open is told by a stack over the tokens; and the tree is made by cutting the tokens of what is known to be right into pieces.

// chapterGrammar is as the chapter writes it, but for only, which is what Expr reads.
const chapterGrammar = `
program = { "var" NAME type ";" } { proc } End
type    = "int" | "bool" | "arr" | "fun"
proc    = "proc" NAME "(" [ NAME type { "," NAME type } ] ")" [ type ] "{" { "var" NAME type ";" } { stmt } "}"
block   = "{" { stmt } "}"
stmt    = NAME "=" rest ";" | NAME "[" expr "]" "=" expr ";" | "out" NAME expr ";"
        | "if" expr block [ "else" block ] | "while" expr block | "call" callee ";"
        | "return" [ expr ] ";" | "throw" expr ";" | "try" block "catch" NAME block
rest    = "in" NAME | "call" callee | "new" expr | expr
callee  = NAME "(" [ expr { "," expr } ] ")"
expr    = and { "||" and }
and     = rel { "&&" rel }
rel     = add { ( "==" | "!=" | "<" | "<=" | ">" | ">=" ) add }
add     = mul { ( "+" | "-" ) mul }
mul     = una { ( "*" | "/" | "%" ) una }
una     = ( "-" | "!" ) una | NUMBER | "true" | "false" | NAME [ "[" expr "]" ] | "len" NAME | "&" NAME | "(" expr ")"
only    = expr End
`

// rules are the alternatives of each row; what is not a row is a token.
type rules map[string][][]string

var chapterRules = grammar()

// grammar reads chapterGrammar; what stands in braces or brackets there becomes a row of its own, called by a number.
func grammar() rules {
	g := &grammarReader{rules: rules{}}
	g.words = regexp.MustCompile(`"[^"]+"|\w+|[={}()\[\]|]`).FindAllString(chapterGrammar, -1)
	for g.next < len(g.words) {
		row := g.words[g.next]
		g.next += 2
		g.rules[row] = g.alternatives()
	}
	return g.rules
}

type grammarReader struct {
	words []string
	next  int
	rules rules
}

// rowBegins tells whether the next word is the name of a row that is about to be told.
func (g *grammarReader) rowBegins() bool {
	return g.next+1 < len(g.words) && g.words[g.next+1] == "="
}

func (g *grammarReader) alternatives() [][]string {
	out := [][]string{nil}
	for g.next < len(g.words) && !g.rowBegins() {
		word := g.words[g.next]
		g.next++
		last := len(out) - 1
		switch word {
		case "|":
			out = append(out, nil)
		case "{", "[", "(":
			out[last] = append(out[last], g.group(word))
		case "}", "]", ")":
			return out
		default:
			out[last] = append(out[last], word)
		}
	}
	return out
}

// group is a row for what stands between a bracket and its end.
func (g *grammarReader) group(bracket string) string {
	inner := g.alternatives()
	row := "group" + strconv.Itoa(len(g.rules))
	switch bracket {
	case "{":
		for i := range inner {
			inner[i] = append([]string{row}, inner[i]...)
		}
		inner = append(inner, nil)
	case "[":
		inner = append(inner, nil)
	}
	g.rules[row] = inner
	return row
}

// state is an alternative of a row of which some is read, from a token on.
type state struct {
	row  string
	rest string // what is still to come, with spaces between
	from int
}

// chart is the states that may be under way at each token.
type chart struct {
	rules rules
	sets  [][]state
}

func newChart(g rules, row string) *chart {
	c := &chart{rules: g, sets: make([][]state, 1)}
	for _, alternative := range g[row] {
		c.enter(state{row, strings.Join(alternative, " "), 0})
	}
	c.close()
	return c
}

// enter puts a state into the last set, once.
func (c *chart) enter(s state) {
	last := len(c.sets) - 1
	if !slices.Contains(c.sets[last], s) {
		c.sets[last] = append(c.sets[last], s)
	}
}

// close adds to the last set what may be under way if its states are.
func (c *chart) close() {
	last := len(c.sets) - 1
	for size := -1; size != len(c.sets[last]); {
		size = len(c.sets[last])
		for i := 0; i < len(c.sets[last]); i++ {
			s := c.sets[last][i]
			if s.rest == "" {
				c.advance(s.from, s.row)
				continue
			}
			first, _, _ := strings.Cut(s.rest, " ")
			for _, alternative := range c.rules[first] {
				c.enter(state{first, strings.Join(alternative, " "), last})
			}
		}
	}
}

// advance puts into the last set those states of a set that waited for a word.
func (c *chart) advance(from int, word string) {
	for i := 0; i < len(c.sets[from]); i++ {
		s := c.sets[from][i]
		if first, rest, _ := strings.Cut(s.rest, " "); first == word && s.rest != "" {
			c.enter(state{s.row, rest, s.from})
		}
	}
}

// read goes on by a token, if that can occur.
func (c *chart) read(t api.Token) bool {
	c.sets = append(c.sets, nil)
	c.advance(len(c.sets)-2, wordOf(t))
	if len(c.sets[len(c.sets)-1]) == 0 {
		return false
	}
	c.close()
	return true
}

// wordOf is how the grammar writes a token.
func wordOf(t api.Token) string {
	switch t.Kind {
	case api.Name:
		return "NAME"
	case api.Number:
		return "NUMBER"
	case api.End:
		return "End"
	}
	return `"` + t.Text + `"`
}

// firstWrong is the index of the first token that cannot occur, or the number of tokens.
func (g rules) firstWrong(tokens []api.Token, row string) int {
	c := newChart(g, row)
	for i, t := range tokens {
		if !c.read(t) {
			return i
		}
	}
	return len(tokens)
}

// openers holds the constructs that are open: a sign or a bracket each.
type openers []string

// endsOperand tells whether an operand may end with a token: the name of the channel of an out is none.
func endsOperand(tokens []api.Token, i int) bool {
	if i < 0 {
		return false
	}
	t := tokens[i]
	switch t.Kind {
	case api.Name:
		return i == 0 || tokens[i-1].Text != "out"
	case api.Number:
		return true
	}
	return slices.Contains([]string{"true", "false", ")", "]"}, t.Text)
}

func opens(tokens []api.Token, i int) bool {
	switch tokens[i].Text {
	case "{", "(", "[", "!":
		return true
	case "-":
		return !endsOperand(tokens, i-1)
	}
	return false
}

// after is what is open behind a token of a program that is right up to there.
func (o openers) after(tokens []api.Token, i int) openers {
	if opens(tokens, i) {
		return append(o, tokens[i].Text)
	}
	if slices.Contains([]string{"}", ")", "]"}, tokens[i].Text) {
		o = o[:len(o)-1]
	}
	indexed := i+1 < len(tokens) && tokens[i+1].Text == "["
	for endsOperand(tokens, i) && !indexed && len(o) > 0 && (o[len(o)-1] == "-" || o[len(o)-1] == "!") {
		o = o[:len(o)-1]
	}
	return o
}

// nesting is the most that is open at one of the tokens, of which the first so many are right, and the first of those that is one too many, or how many they are.
func nesting(tokens []api.Token, right int) (most, tooMany int) {
	var o openers
	for i := range right {
		if len(o) == 40 && opens(tokens, i) {
			return most, i
		}
		o = o.after(tokens, i)
		most = max(most, len(o))
	}
	return most, right
}

// drawing is a tree as it is drawn.
type drawing struct {
	node api.Node
	kids []*drawing
}

func draw(kind int, text string, n, at int, kids ...*drawing) *drawing {
	return &drawing{api.Node{Kind: kind, Text: text, N: n, At: at}, kids}
}

// flatten writes what is below a drawing, and then itself, behind the nodes that are written already.
func (d *drawing) flatten(nodes *[]api.Node) (place, depth int) {
	n := d.node
	for _, kid := range d.kids {
		p, below := kid.flatten(nodes)
		n.Kids = append(n.Kids, p)
		depth = max(depth, below)
	}
	*nodes = append(*nodes, n)
	return len(*nodes) - 1, depth + 1
}

// closing is the index of the bracket that closes the one at an index.
func closing(tokens []api.Token, i int) int {
	for depth := 0; ; i++ {
		switch tokens[i].Text {
		case "(", "[", "{":
			depth++
		case ")", "]", "}":
			depth--
		}
		if depth == 0 {
			return i
		}
	}
}

// find is the index of the first of some tokens that is no more in brackets than the first one.
func find(tokens []api.Token, text string) int {
	for i := 0; i < len(tokens); i++ {
		switch {
		case tokens[i].Text == text:
			return i
		case slices.Contains([]string{"(", "[", "{"}, tokens[i].Text):
			i = closing(tokens, i)
		}
	}
	return -1
}

var typeNumbers = map[string]int{"int": 1, "bool": 2, "arr": 3, "fun": 4}

func drawProgram(l []api.Token) *drawing {
	d := draw(api.Program, "", 0, 0)
	for l[0].Kind != api.End {
		if l[0].Text == "var" {
			d.kids = append(d.kids, draw(api.Global, l[1].Text, typeNumbers[l[2].Text], l[0].At))
			l = l[4:]
			continue
		}
		size := closing(l, find(l, "{")) + 1
		d.kids = append(d.kids, drawProc(l[:size]))
		l = l[size:]
	}
	return d
}

func drawProc(l []api.Token) *drawing {
	params, brace := closing(l, 2), find(l, "{")
	d := draw(api.Proc, l[1].Text, typeNumbers[l[brace-1].Text], l[0].At)
	for i := 3; i < params; i += 3 {
		d.kids = append(d.kids, draw(api.Param, l[i].Text, typeNumbers[l[i+1].Text], l[i].At))
	}
	start := brace + 1
	for ; l[start].Text == "var"; start += 4 {
		d.kids = append(d.kids, draw(api.Local, l[start+1].Text, typeNumbers[l[start+2].Text], l[start].At))
	}
	d.kids = append(d.kids, drawBlock(l[start:len(l)-1], l[brace].At))
	return d
}

func drawBlock(l []api.Token, at int) *drawing {
	d := draw(api.Block, "", 0, at)
	for len(l) > 0 {
		size := statementSize(l)
		d.kids = append(d.kids, drawStatement(l[:size]))
		l = l[size:]
	}
	return d
}

// statementSize is how many of some tokens the first statement has.
func statementSize(l []api.Token) int {
	switch l[0].Text {
	case "if", "while":
		end := closing(l, find(l, "{")) + 1
		if end < len(l) && l[end].Text == "else" {
			return closing(l, end+1) + 1
		}
		return end
	case "try":
		return closing(l, closing(l, 1)+3) + 1
	}
	return find(l, ";") + 1
}

func drawStatement(l []api.Token) *drawing {
	at, inner := l[0].At, l[1:len(l)-1]
	switch l[0].Text {
	case "out":
		return draw(api.Out, "", 0, at, draw(api.Chan, l[1].Text, 0, l[1].At), drawExpr(inner[1:]))
	case "if", "while", "try":
		return drawBlocks(l)
	case "call":
		return drawCall(inner, "", at)
	case "return":
		if len(inner) == 0 {
			return draw(api.Return, "", 0, at)
		}
		return draw(api.Return, "", 0, at, drawExpr(inner))
	case "throw":
		return draw(api.Throw, "", 0, at, drawExpr(inner))
	}
	if sign := find(l, "="); sign > 1 {
		return draw(api.Store, l[0].Text, 0, at, drawExpr(l[2:sign-1]), drawExpr(l[sign+1:len(l)-1]))
	}
	switch l[2].Text {
	case "in":
		return draw(api.In, l[0].Text, 0, at, draw(api.Chan, l[3].Text, 0, l[3].At))
	case "call":
		return drawCall(inner[2:], l[0].Text, at)
	case "new":
		return draw(api.New, l[0].Text, 0, at, drawExpr(inner[2:]))
	}
	return draw(api.Assign, l[0].Text, 0, at, drawExpr(inner[1:]))
}

// drawBlocks draws a statement that ends with a block.
func drawBlocks(l []api.Token) *drawing {
	at, brace := l[0].At, find(l, "{")
	end := closing(l, brace)
	first := drawBlock(l[brace+1:end], l[brace].At)
	second := draw(api.Block, "", 0, at)
	if end+1 < len(l) {
		start := end + 1 + find(l[end+1:], "{")
		second = drawBlock(l[start+1:len(l)-1], l[start].At)
	}
	switch l[0].Text {
	case "if":
		return draw(api.If, "", 0, at, drawExpr(l[1:brace]), first, second)
	case "while":
		return draw(api.While, "", 0, at, drawExpr(l[1:brace]), first)
	}
	return draw(api.Try, l[end+2].Text, 0, at, first, second)
}

// drawCall draws the name and the arguments of a call.
func drawCall(l []api.Token, text string, at int) *drawing {
	d := draw(api.Call, text, 0, at, draw(api.Ref, l[0].Text, 0, l[0].At))
	for l = l[2 : len(l)-1]; len(l) > 0; {
		size := find(l, ",")
		if size < 0 {
			size = len(l)
		}
		d.kids = append(d.kids, drawExpr(l[:size]))
		l = l[min(size+1, len(l)):]
	}
	return d
}

var operatorRows = [][]string{{"||"}, {"&&"}, {"==", "!=", "<", "<=", ">", ">="}, {"+", "-"}, {"*", "/", "%"}}

// drawExpr cuts at the last operator of the first row that has one: so what is left of it is together first.
func drawExpr(l []api.Token) *drawing {
	for _, row := range operatorRows {
		cut := -1
		for i := 0; i < len(l); i++ {
			switch {
			case l[i].Text == "(" || l[i].Text == "[":
				i = closing(l, i)
			case slices.Contains(row, l[i].Text) && endsOperand(l, i-1):
				cut = i
			}
		}
		if cut >= 0 {
			return draw(api.Binary, l[cut].Text, 0, l[cut].At, drawExpr(l[:cut]), drawExpr(l[cut+1:]))
		}
	}
	return drawOperand(l)
}

func drawOperand(l []api.Token) *drawing {
	t := l[0]
	switch {
	case t.Text == "-" || t.Text == "!":
		return draw(api.Unary, t.Text, 0, t.At, drawOperand(l[1:]))
	case t.Text == "(":
		return drawExpr(l[1 : len(l)-1])
	case t.Text == "true":
		return draw(api.Truth, "", 1, t.At)
	case t.Text == "false":
		return draw(api.Truth, "", 0, t.At)
	case t.Text == "len":
		return draw(api.Length, l[1].Text, 0, t.At)
	case t.Text == "&":
		return draw(api.Addr, l[1].Text, 0, t.At)
	case t.Kind == api.Number:
		return draw(api.Const, "", t.N, t.At)
	case len(l) > 1:
		return draw(api.Index, t.Text, 0, t.At, drawExpr(l[2:len(l)-1]))
	}
	return draw(api.Var, t.Text, 0, t.At)
}

// model answers what Program and Expr must, and how much is open at most if that is no error. A row is program or only.
type model struct{ rules rules }

func (m model) read(s, row string) (api.Tree, int, int, api.Errno) {
	tokens, at, e := token.Cut(s)
	if e != api.OK {
		return api.Tree{}, at, 0, e
	}
	wrong := m.rules.firstWrong(tokens, row)
	most, tooMany := nesting(tokens, wrong)
	switch {
	case tooMany < wrong:
		return api.Tree{}, tokens[tooMany].At, 0, api.ErrDeep
	case wrong < len(tokens):
		return api.Tree{}, tokens[wrong].At, 0, api.ErrForm
	}
	var nodes []api.Node
	var root, depth int
	if row == "program" {
		root, depth = drawProgram(tokens).flatten(&nodes)
	} else {
		root, depth = drawExpr(tokens[:len(tokens)-1]).flatten(&nodes)
	}
	switch {
	case len(nodes) > 4000:
		return api.Tree{}, 0, 0, api.ErrMany
	case depth > 40:
		return api.Tree{}, 0, 0, api.ErrDeep
	}
	return api.Tree{Nodes: nodes, Root: root}, 0, most, api.OK
}
