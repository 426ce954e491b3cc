package types

import (
	"math/rand"
	"slices"
	"strings"

	"runnel/api"
	"runnel/tree"
)

// grow makes random programs that have no errors, but for those that are put into them.
type grow struct {
	*rand.Rand
	globals []api.Node
	procs   []header
	here    []api.Node // what a name may denote in the procedure that is being made
	result  int        // and what that one answers
}

// header is what a procedure has but for its Block.
type header struct {
	api.Node
	params, locals []api.Node
}

var pool = strings.Fields("a b c d e f g h i x y z main lo hi _0 Z9 int_ an_array_of_20_bytes")

func newGrow(seed int64) *grow { return &grow{Rand: rand.New(rand.NewSource(seed))} }

// names are different names of the pool, but for those that are taken.
func (g *grow) names(count int, taken ...string) []string {
	var out []string
	for _, i := range g.Perm(len(pool)) {
		if len(out) < count && !slices.Contains(taken, pool[i]) {
			out = append(out, pool[i])
		}
	}
	return out
}

func (g *grow) variables(kind int, names []string) []api.Node {
	var out []api.Node
	for _, name := range names {
		out = append(out, api.Node{Kind: kind, Text: name, N: 1 + g.Intn(4)})
	}
	return out
}

// program has a main somewhere among up to so many procedures.
func (g *grow) program(most int) api.Tree {
	names := g.names(g.Intn(5)+g.Intn(most), "main")
	split := g.Intn(min(len(names), 4) + 1)
	g.globals = g.variables(api.Global, names[:split])
	g.procs = nil
	for _, name := range names[split:] {
		g.procs = append(g.procs, g.header(name))
	}
	start := g.header("main")
	start.N, start.params = 0, nil
	g.procs = slices.Insert(g.procs, g.Intn(len(g.procs)+1), start)
	var list []api.Tree
	for _, n := range g.globals {
		list = append(list, tree.Over(n, nil))
	}
	for _, h := range g.procs {
		list = append(list, g.proc(h))
	}
	return over(api.Program, "", list...)
}

func (g *grow) header(name string) header {
	names := g.names(g.Intn(7))
	split := g.Intn(len(names)/2 + 1)
	h := header{api.Node{Kind: api.Proc, Text: name, N: g.Intn(5)}, g.variables(api.Param, names[:split]), g.variables(api.Local, names[split:])}
	if g.Intn(3) == 0 {
		h.N, h.params = api.Int, []api.Node{{Kind: api.Param, Text: "p", N: api.Int}}
	}
	return h
}

func (g *grow) proc(h header) api.Tree {
	g.here, g.result = append(slices.Clone(h.params), h.locals...), h.N
	for _, n := range g.globals {
		if !g.denotes(n.Text) {
			g.here = append(g.here, n)
		}
	}
	var list []api.Tree
	for _, n := range append(slices.Clone(h.params), h.locals...) {
		list = append(list, tree.Over(n, nil))
	}
	return tree.Over(h.Node, append(list, g.block(3)))
}

func (g *grow) denotes(name string) bool {
	return slices.ContainsFunc(g.here, func(n api.Node) bool { return n.Text == name })
}

// variable is the name of a variable of a type, if there is one.
func (g *grow) variable(kind int) (string, bool) {
	for _, i := range g.Perm(len(g.here)) {
		if g.here[i].N == kind {
			return g.here[i].Text, true
		}
	}
	return "", false
}

func (g *grow) block(room int) api.Tree {
	var list []api.Tree
	for range g.Intn(5) {
		if x, ok := g.stmt(api.Assign+g.Intn(11), room); ok {
			list = append(list, x)
		}
	}
	return over(api.Block, "", list...)
}

// stmt is a statement of a kind, if one can be made here.
func (g *grow) stmt(kind, room int) (api.Tree, bool) {
	channel := leaf(api.Chan, pool[g.Intn(len(pool))], 0)
	integer := func() api.Tree { x, _ := g.expr(api.Int, 3); return x }
	truth := func() api.Tree { x, _ := g.expr(api.Bool, 3); return x }
	switch kind {
	case api.Assign:
		return g.assign()
	case api.Store:
		text, ok := g.variable(api.Arr)
		return over(kind, text, integer(), integer()), ok
	case api.New:
		text, ok := g.variable(api.Arr)
		return over(kind, text, integer()), ok
	case api.In:
		text, ok := g.variable(api.Int)
		return over(kind, text, channel), ok
	case api.Out:
		return over(kind, "", channel, integer()), true
	case api.Throw:
		return over(kind, "", integer()), true
	case api.Call:
		return g.call()
	case api.Return:
		return g.answer()
	}
	if room == 0 {
		return api.Tree{}, false
	}
	switch kind {
	case api.If:
		return over(kind, "", truth(), g.block(room-1), g.block(room-1)), true
	case api.While:
		return over(kind, "", truth(), g.block(room-1)), true
	}
	text, ok := g.variable(api.Int)
	return over(kind, text, g.block(room-1), g.block(room-1)), ok
}

func (g *grow) assign() (api.Tree, bool) {
	kind := 1 + g.Intn(4)
	text, ok := g.variable(kind)
	value, also := g.expr(kind, 3)
	return over(api.Assign, text, value), ok && also
}

func (g *grow) answer() (api.Tree, bool) {
	if g.result == api.None {
		return over(api.Return, ""), true
	}
	value, ok := g.expr(g.result, 3)
	return over(api.Return, "", value), ok
}

// call calls a variable, or a procedure that none hides.
func (g *grow) call() (api.Tree, bool) {
	params, result := []int{api.Int}, api.Int
	callee, ok := g.variable(api.Fun)
	if h := g.procs[g.Intn(len(g.procs))]; !ok || g.Intn(3) > 0 {
		callee, ok, params, result = h.Text, !g.denotes(h.Text), nil, h.N
		for _, n := range h.params {
			params = append(params, n.N)
		}
	}
	text := ""
	if g.Intn(2) == 0 && ok {
		text, ok = g.variable(result)
	}
	kids := []api.Tree{leaf(api.Ref, callee, 0)}
	for _, kind := range params {
		x, also := g.expr(kind, 2)
		kids, ok = append(kids, x), ok && also
	}
	return over(api.Call, text, kids...), ok
}

// expr is an expression of a type, if one can be made here: there is always one of an Int and a Bool.
func (g *grow) expr(kind, room int) (api.Tree, bool) {
	if text, ok := g.variable(kind); ok && g.Intn(3) == 0 {
		return leaf(api.Var, text, 0), true
	}
	switch kind {
	case api.Int:
		return g.integer(room), true
	case api.Bool:
		return g.truth(room), true
	case api.Fun:
		for _, i := range g.Perm(len(g.procs)) {
			if h := g.procs[i]; h.N == api.Int && len(h.params) == 1 && h.params[0].N == api.Int {
				return leaf(api.Addr, h.Text, 0), true
			}
		}
	}
	text, ok := g.variable(kind)
	return leaf(api.Var, text, 0), ok
}

func (g *grow) integer(room int) api.Tree {
	array, ok := g.variable(api.Arr)
	below := func() api.Tree { x, _ := g.expr(api.Int, room-1); return x }
	switch choice := g.Intn(8); {
	case choice == 0 && ok:
		return leaf(api.Length, array, 0)
	case choice == 1 && ok && room > 0:
		return over(api.Index, array, below())
	case choice == 2 && room > 0:
		return over(api.Unary, "-", below())
	case choice < 6 && room > 0:
		return over(api.Binary, strings.Fields("+ - * / %")[g.Intn(5)], below(), below())
	}
	return leaf(api.Const, "", g.Intn(9))
}

func (g *grow) truth(room int) api.Tree {
	below := func(kind int) api.Tree { x, _ := g.expr(kind, room-1); return x }
	if room == 0 {
		return leaf(api.Truth, "", g.Intn(2))
	}
	switch g.Intn(6) {
	case 0:
		return leaf(api.Truth, "", g.Intn(2))
	case 1:
		return over(api.Unary, "!", below(api.Bool))
	case 2:
		return over(api.Binary, []string{"&&", "||"}[g.Intn(2)], below(api.Bool), below(api.Bool))
	case 3:
		kind := 1 + g.Intn(2)
		return over(api.Binary, []string{"==", "!="}[g.Intn(2)], below(kind), below(kind))
	}
	return over(api.Binary, strings.Fields("< <= > >=")[g.Intn(4)], below(api.Int), below(api.Int))
}

// place is that of some node: any one, or any one of some kind, so that the rare ones have their turn.
func (g *grow) place(x api.Tree) int {
	places := g.Perm(len(x.Nodes))
	if g.Intn(2) == 0 {
		return places[0]
	}
	kind := api.Global + g.Intn(api.Binary)
	return places[max(0, slices.IndexFunc(places, func(i int) bool { return x.Nodes[i].Kind == kind }))]
}

// spoil changes one thing of a program such that it stays valid, if it can.
func (g *grow) spoil(x *api.Tree) {
	place := g.place(*x)
	n := &x.Nodes[place]
	name := pool[g.Intn(len(pool))]
	switch before := x.Nodes[max(0, place-1)]; {
	case g.Intn(4) == 0:
		name = "nothing"
	case before.Kind <= api.Local && before.Text != "" && g.Intn(2) == 0:
		name = before.Text
	}
	switch n.Kind {
	case api.Program, api.Block, api.Const, api.Truth:
		return
	case api.Global, api.Param, api.Local:
		if g.Intn(2) == 0 {
			n.N = 1 + g.Intn(4)
			return
		}
	case api.Proc:
		if g.Intn(2) == 0 {
			n.N = g.Intn(5)
			return
		}
	case api.Unary:
		name = []string{"-", "!"}[g.Intn(2)]
	case api.Binary:
		name = strings.Fields("+ - * / % == != < <= > >= && ||")[g.Intn(13)]
	case api.Call:
		name = []string{"", name}[g.Intn(2)]
	case api.Var, api.Length, api.Addr:
		n.Kind = []int{api.Var, api.Length, api.Addr}[g.Intn(3)]
		if g.Intn(2) == 0 {
			return
		}
	}
	if n.Text != "" || n.Kind == api.Call {
		n.Text = name
	}
}
