package print

import (
	"math"
	"math/rand"
	"regexp"
	"slices"
	"strconv"
	"strings"

	"runnel/api"
	"runnel/tree"
)

func leaf(kind int, text string, n int) api.Tree {
	return tree.Over(api.Node{Kind: kind, Text: text, N: n}, nil)
}

func over(kind int, text string, kids ...api.Tree) api.Tree {
	return tree.Over(api.Node{Kind: kind, Text: text}, kids)
}

func name(text string) api.Tree { return leaf(api.Var, text, 0) }

func number(n int) api.Tree { return leaf(api.Const, "", n) }

func block(statements ...api.Tree) api.Tree { return over(api.Block, "", statements...) }

// procOf is a procedure f that has these statements and nothing else.
func procOf(statements ...api.Tree) api.Tree { return over(api.Proc, "f", block(statements...)) }

// programOf is a program of that procedure alone.
func programOf(statements ...api.Tree) api.Tree {
	return over(api.Program, "", procOf(statements...))
}

func copied(t api.Tree) api.Tree {
	nodes := slices.Clone(t.Nodes)
	for i := range nodes {
		nodes[i].Kids = slices.Clone(nodes[i].Kids)
	}
	return api.Tree{Nodes: nodes, Root: t.Root}
}

// equal holds all of two trees against each other; only nil and empty are the same.
func equal(a, b api.Tree) bool {
	return a.Root == b.Root && slices.EqualFunc(a.Nodes, b.Nodes, func(x, y api.Node) bool {
		return x.Kind == y.Kind && x.N == y.N && x.At == y.At && x.Text == y.Text && slices.Equal(x.Kids, y.Kids)
	})
}

// The model writes the chapter's definitions as templates: T is a node's Text, N its N in decimal, B its N as a truth, a digit the child with that number, and a digit in <> a child in parentheses if it is a Binary. Of kinds that take any number of children, it is what modelLine says.
var templates = map[int]string{
	api.Const:  "N",
	api.Truth:  "B",
	api.Var:    "T",
	api.Index:  "T[0]",
	api.Length: "len T",
	api.Addr:   "&T",
	api.Unary:  "T<0>",
	api.Binary: "<0> T <1>",
	api.Chan:   "T",
	api.Ref:    "T",
	api.Assign: "T = 0",
	api.Store:  "T[0] = 1",
	api.In:     "T = in 0",
	api.Out:    "out 0 1",
	api.Throw:  "throw 0",
	api.New:    "T = new 0",
	api.If:     "if 0",
	api.While:  "while 0",
	api.Try:    "try",
}

// modelLine is the text of an expression and the line of a statement.
func modelLine(t api.Tree, place int) string {
	n := t.Nodes[place]
	var kids []string
	for _, kid := range n.Kids {
		if k := t.Nodes[kid].Kind; k != api.Block {
			kids = append(kids, modelLine(t, kid))
		}
	}
	switch {
	case n.Kind == api.Return:
		return strings.Join(append([]string{"return"}, kids...), " ")
	case n.Kind == api.Call && n.Text == "":
		return "call " + kids[0] + "(" + strings.Join(kids[1:], ", ") + ")"
	case n.Kind == api.Call:
		return n.Text + " = call " + kids[0] + "(" + strings.Join(kids[1:], ", ") + ")"
	}
	out := ""
	operand := false
	for _, c := range templates[n.Kind] {
		switch {
		case c == '<' || c == '>':
			operand = c == '<'
		case c == 'T':
			out += n.Text
		case c == 'N':
			out += strconv.Itoa(n.N)
		case c == 'B':
			out += []string{"false", "true"}[n.N]
		case '0' <= c && c <= '9' && operand && t.Nodes[n.Kids[c-'0']].Kind == api.Binary:
			out += "(" + kids[c-'0'] + ")"
		case '0' <= c && c <= '9':
			out += kids[c-'0']
		default:
			out += string(c)
		}
	}
	return out
}

// modelProgram writes lines without spaces ahead of them, and puts those there in the end: a line lies in as many Blocks as there are braces open.
func modelProgram(t api.Tree) string {
	out, open := "", 0
	for _, line := range strings.SplitAfter(modelLines(t, t.Root), "\n") {
		if strings.HasPrefix(line, "}") {
			open--
		}
		if line != "" {
			out += strings.Repeat(" ", 2*open) + line
		}
		if strings.HasSuffix(line, "{\n") {
			open++
		}
	}
	return out
}

// modelLines are the lines of a node that is no expression.
func modelLines(t api.Tree, place int) string {
	n := t.Nodes[place]
	below := func(kinds ...int) string {
		out := ""
		for _, kid := range n.Kids {
			if slices.Contains(kinds, t.Nodes[kid].Kind) {
				out += modelLines(t, kid)
			}
		}
		return out
	}
	kid := func(i int) string { return modelLines(t, n.Kids[i]) }
	words := []string{"", "int", "bool", "arr", "fun"}
	switch n.Kind {
	case api.Program:
		return below(api.Global) + below(api.Proc)
	case api.Global, api.Local:
		return "var " + n.Text + " " + words[n.N] + ";\n"
	case api.Param:
		return n.Text + " " + words[n.N] + ", "
	case api.Proc:
		result := strings.TrimSuffix(" "+words[n.N], " ")
		return "proc " + n.Text + "(" + strings.TrimSuffix(below(api.Param), ", ") + ")" + result + " {\n" + below(api.Local) + below(api.Block) + "}\n"
	case api.Block:
		out := ""
		for i := range n.Kids {
			out += kid(i)
		}
		return out
	case api.If:
		out := modelLine(t, place) + " {\n" + kid(1)
		if kid(2) != "" {
			out += "} else {\n" + kid(2)
		}
		return out + "}\n"
	case api.While:
		return modelLine(t, place) + " {\n" + kid(1) + "}\n"
	case api.Try:
		return "try {\n" + kid(0) + "} catch " + n.Text + " {\n" + kid(1) + "}\n"
	}
	return modelLine(t, place) + ";\n"
}

var (
	names = strings.Fields("a b x y _ main lo hi _0 Z9 int_ an_array_of_20_bytes")
	signs = strings.Fields("+ - * / % == != < <= > >= && ||")
	kept  = strings.Fields("var proc int bool arr fun in out if else while call return throw try catch new len true false")
	ident = regexp.MustCompile(`^[A-Za-z_][A-Za-z0-9_]{0,19}$`)
)

// modelShaped tells whether a node over expressions is an expression that has its shape.
func modelShaped(n api.Node) bool {
	named := ident.MatchString(n.Text) && !slices.Contains(kept, n.Text)
	switch n.Kind {
	case api.Const:
		return n.Text == "" && n.N >= 0 && len(n.Kids) == 0
	case api.Truth:
		return n.Text == "" && (n.N == 0 || n.N == 1) && len(n.Kids) == 0
	case api.Var, api.Length, api.Addr:
		return named && n.N == 0 && len(n.Kids) == 0
	case api.Index:
		return named && n.N == 0 && len(n.Kids) == 1
	case api.Unary:
		return (n.Text == "-" || n.Text == "!") && n.N == 0 && len(n.Kids) == 1
	case api.Binary:
		return slices.Contains(signs, n.Text) && n.N == 0 && len(n.Kids) == 2
	}
	return false
}

// modelExpr is what Expr must answer.
func modelExpr(t api.Tree) string {
	if !tree.Sound(t) || tree.Depth(t) > 40 {
		return ""
	}
	for _, n := range t.Nodes {
		if !modelShaped(n) {
			return ""
		}
	}
	return modelLine(t, t.Root)
}

// grow makes random trees that have their shapes.
type grow struct{ *rand.Rand }

func newGrow(seed int64) grow { return grow{rand.New(rand.NewSource(seed))} }

func (g grow) name() string { return names[g.Intn(len(names))] }

func (g grow) number() int { return []int{0, 1, 7, 10, 42, math.MaxInt, g.Int()}[g.Intn(7)] }

func (g grow) leaf() api.Tree {
	switch kind := []int{api.Const, api.Truth, api.Var, api.Length, api.Addr}[g.Intn(5)]; kind {
	case api.Const:
		return leaf(kind, "", g.number())
	case api.Truth:
		return leaf(kind, "", g.Intn(2))
	default:
		return leaf(kind, g.name(), 0)
	}
}

// above is an expression over others, of which it takes as many as it needs.
func (g grow) above(first, second api.Tree) api.Tree {
	switch g.Intn(5) {
	case 0:
		return over(api.Index, g.name(), first)
	case 1:
		return over(api.Unary, []string{"-", "!"}[g.Intn(2)], first)
	case 2:
		return over(api.Binary, signs[g.Intn(len(signs))], second, first)
	}
	return over(api.Binary, signs[g.Intn(len(signs))], first, second)
}

// expr is an expression of at most so much depth.
func (g grow) expr(room int) api.Tree {
	if room <= 1 || g.Intn(4) == 0 {
		return g.leaf()
	}
	return g.above(g.expr(room-1), g.expr(min(room-1, 3)))
}

// deepExpr is an expression of just this depth, with little beside the way down.
func (g grow) deepExpr(depth int) api.Tree {
	t := g.leaf()
	for at := 1; at < depth; at++ {
		t = g.above(t, g.expr(min(at, 3)))
	}
	return t
}

// block has room for depth below it that includes its own node.
func (g grow) block(room int) api.Tree {
	var list []api.Tree
	for range g.Intn(4) {
		if room > 2 {
			list = append(list, g.stmt(api.Assign+g.Intn(11), room-1))
		}
	}
	return block(list...)
}

func (g grow) stmt(kind, room int) api.Tree {
	below := room - 1
	value := func() api.Tree { return g.expr(min(below, 4)) }
	channel := func() api.Tree { return leaf(api.Chan, g.name(), 0) }
	switch kind {
	case api.Store:
		return over(kind, g.name(), value(), value())
	case api.In:
		return over(kind, g.name(), channel())
	case api.Out:
		return over(kind, "", channel(), value())
	case api.If:
		return over(kind, "", value(), g.block(below), g.block(below))
	case api.While:
		return over(kind, "", value(), g.block(below))
	case api.Call:
		kids := []api.Tree{leaf(api.Ref, g.name(), 0)}
		for range g.Intn(4) {
			kids = append(kids, value())
		}
		return over(kind, []string{"", g.name()}[g.Intn(2)], kids...)
	case api.Return:
		return over(kind, "", []api.Tree{value()}[g.Intn(2):]...)
	case api.Throw:
		return over(kind, "", value())
	case api.Try:
		return over(kind, g.name(), g.block(below), g.block(below))
	}
	return over(kind, g.name(), value())
}

// deepBlock is a Block of just this depth, 3 or more: an expression at the bottom, and Blocks in one another above it, a statement between each two.
func (g grow) deepBlock(depth int) api.Tree {
	blocks := 1 + g.Intn((depth-1)/2)
	t := block(over(api.Throw, "", g.deepExpr(depth-2*blocks)))
	for range blocks - 1 {
		switch g.Intn(5) {
		case 0:
			t = over(api.While, "", g.leaf(), t)
		case 1:
			t = over(api.If, "", g.leaf(), t, g.block(3))
		case 2:
			t = over(api.If, "", g.leaf(), g.block(3), t)
		case 3:
			t = over(api.Try, g.name(), t, g.block(3))
		case 4:
			t = over(api.Try, g.name(), g.block(3), t)
		}
		t = block(g.stmt(api.Assign, 2), t)
	}
	return t
}

func (g grow) vars(kind int) []api.Tree {
	var out []api.Tree
	for range g.Intn(4) {
		out = append(out, leaf(kind, g.name(), 1+g.Intn(4)))
	}
	return out
}

func (g grow) proc(body api.Tree) api.Tree {
	kids := append(g.vars(api.Param), g.vars(api.Local)...)
	return tree.Over(api.Node{Kind: api.Proc, Text: g.name(), N: g.Intn(5)}, append(kids, body))
}

// program has room for so much depth in all.
func (g grow) program(room int) api.Tree {
	list := g.vars(api.Global)
	for range g.Intn(4) {
		list = append(list, g.proc(g.block(room-2)))
	}
	return over(api.Program, "", list...)
}
