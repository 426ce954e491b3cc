package print

import (
	"math"
	"slices"
	"strings"
	"testing"

	"runnel/api"
	"runnel/tree"
)

// refuseAll wants nothing of any call for a tree, at any place.
func refuseAll(t *testing.T, why string, x api.Tree) {
	t.Helper()
	if got := Program(x); got != "" {
		t.Errorf("%s: Program is %.200q", why, got)
	}
	if got := Expr(x); got != "" {
		t.Errorf("%s: Expr is %.200q", why, got)
	}
	refuseLines(t, why, x)
}

func refuseLines(t *testing.T, why string, x api.Tree) {
	t.Helper()
	for place := -2; place < min(len(x.Nodes)+2, 60); place++ {
		if got := Line(x, place); got != "" {
			t.Errorf("%s: the line at %d is %.200q", why, place, got)
		}
	}
	if got := Line(x, x.Root) + Line(x, len(x.Nodes)-1) + Line(x, len(x.Nodes)-4); got != "" {
		t.Errorf("%s: the last lines are %.200q", why, got)
	}
}

// everyKind is a program that has a node of each kind.
func everyKind() api.Tree {
	sum := over(api.Binary, "+", name("y"), number(1))
	list := []api.Tree{
		over(api.Assign, "x", over(api.Unary, "-", sum)),
		over(api.Store, "a", number(0), over(api.Index, "a", sum)),
		over(api.In, "x", leaf(api.Chan, "hi", 0)),
		over(api.Out, "", leaf(api.Chan, "lo", 0), leaf(api.Length, "a", 0)),
		over(api.If, "", leaf(api.Truth, "", 1), block(over(api.Return, "")), block(over(api.Return, "", name("x")))),
		over(api.While, "", name("b"), block(over(api.Throw, "", number(1)))),
		over(api.Try, "e", block(), block(over(api.New, "a", number(3)))),
		over(api.Call, "x", leaf(api.Ref, "f", 0), leaf(api.Addr, "f", 0), sum),
		over(api.Call, "", leaf(api.Ref, "f", 0)),
	}
	proc := tree.Over(api.Node{Kind: api.Proc, Text: "f", N: api.Int}, []api.Tree{leaf(api.Param, "p", api.Fun), leaf(api.Local, "x", api.Int), block(list...)})
	return over(api.Program, "", leaf(api.Global, "g", api.Bool), proc, procOf())
}

func TestEveryKind(t *testing.T) {
	x := everyKind()
	holdProgram(t, x)
	for kind := api.Program; kind <= api.Binary; kind++ {
		if !slices.ContainsFunc(x.Nodes, func(n api.Node) bool { return n.Kind == kind }) {
			t.Error(kind)
		}
	}
}

// unsound are trees that each have one fault in how the nodes stand.
func unsound(x api.Tree) map[string]api.Tree {
	last := len(x.Nodes) - 1
	out := map[string]api.Tree{
		"no nodes":                 {},
		"no nodes and a root":      {Root: 1},
		"no nodes and a root at 0": {Nodes: []api.Node{}, Root: 0},
		"a root that is not last":  {Nodes: x.Nodes, Root: last - 1},
		"a root at 0":              {Nodes: x.Nodes, Root: 0},
		"a root ahead of all":      {Nodes: x.Nodes, Root: -1},
		"a root behind all":        {Nodes: x.Nodes, Root: last + 1},
		"a root far ahead":         {Nodes: x.Nodes, Root: math.MinInt},
		"a root far behind":        {Nodes: x.Nodes, Root: math.MaxInt},
		"without its last node":    {Nodes: x.Nodes[:last], Root: last},
		"without its first node":   {Nodes: x.Nodes[1:], Root: last - 1},
	}
	with := func(why string, change func(nodes []api.Node)) {
		y := copied(x)
		change(y.Nodes)
		out[why] = y
	}
	kids := func(why string, change func(list []int) []int) {
		with("the root's kids: "+why, func(nodes []api.Node) { nodes[last].Kids = change(nodes[last].Kids) })
	}
	kids("none", func(list []int) []int { return nil })
	kids("the first is missing", func(list []int) []int { return list[1:] })
	kids("the last is missing", func(list []int) []int { return list[:len(list)-1] })
	kids("the last is there twice", func(list []int) []int { return append(list, last-1) })
	kids("the root is one", func(list []int) []int { return append(list, last) })
	kids("one is behind all", func(list []int) []int { return append(list, last+1) })
	kids("one is ahead of all", func(list []int) []int { return append([]int{-1}, list...) })
	kids("one is far ahead", func(list []int) []int { return append([]int{math.MinInt}, list...) })
	kids("one is far behind", func(list []int) []int { return append(list, math.MaxInt) })
	kids("in another order", func(list []int) []int { return append(list[1:], list[0]) })
	with("the first node is its own child", func(nodes []api.Node) { nodes[0].Kids = []int{0} })
	with("the first node is over the root", func(nodes []api.Node) { nodes[0].Kids = []int{last} })
	return out
}

func TestR1NotSound(t *testing.T) {
	sum := over(api.Binary, "+", over(api.Unary, "-", name("x")), number(1))
	if Program(everyKind()) == "" || Expr(sum) == "" {
		t.Fatal("nothing, without a fault")
	}
	for why, x := range unsound(everyKind()) {
		refuseAll(t, why, x)
	}
	for why, x := range unsound(sum) {
		refuseAll(t, why, x)
	}
}

// TestR1SoundButNotValid: a tree whose nodes all stand where they must, one of which is not as its kind wants it.
func TestR1SoundButNotValid(t *testing.T) {
	statement := over(api.Assign, "x", number(1))
	proc := func(n int, text string, kids ...api.Tree) api.Tree {
		return over(api.Program, "", procOf(statement), tree.Over(api.Node{Kind: api.Proc, Text: text, N: n}, kids))
	}
	for why, x := range map[string]api.Tree{
		"a Block as the root":         block(statement),
		"a Proc as the root":          procOf(statement),
		"a statement as the root":     statement,
		"a Program with a Text":       over(api.Program, "p", procOf(statement)),
		"a Program with an N":         tree.Over(api.Node{Kind: api.Program, N: 1}, []api.Tree{procOf(statement)}),
		"a Global behind a Proc":      over(api.Program, "", procOf(statement), leaf(api.Global, "g", api.Int)),
		"a Local as a Global":         over(api.Program, "", leaf(api.Local, "g", api.Int), procOf(statement)),
		"a Global of no type":         over(api.Program, "", leaf(api.Global, "g", 0), procOf(statement)),
		"a Global of a fifth type":    over(api.Program, "", leaf(api.Global, "g", 5), procOf(statement)),
		"a Global without a name":     over(api.Program, "", leaf(api.Global, "", api.Int), procOf(statement)),
		"a Program in a Program":      over(api.Program, "", over(api.Program, "", procOf(statement))),
		"a statement in a Program":    over(api.Program, "", procOf(statement), statement),
		"a Proc of a fifth type":      proc(5, "p", block(statement)),
		"a Proc of a negative type":   proc(-1, "p", block(statement)),
		"a Proc without a name":       proc(0, "", block(statement)),
		"a Proc with a keyword":       proc(0, "var", block(statement)),
		"a Proc without a Block":      proc(0, "p"),
		"a Proc with two Blocks":      proc(0, "p", block(), block(statement)),
		"a Param behind a Local":      proc(0, "p", leaf(api.Local, "x", api.Int), leaf(api.Param, "y", api.Int), block(statement)),
		"a Local behind the Block":    proc(0, "p", block(statement), leaf(api.Local, "x", api.Int)),
		"a Block in a Block":          programOf(statement, block()),
		"an expression in a Block":    programOf(statement, number(1)),
		"a Local in a Block":          programOf(statement, leaf(api.Local, "x", api.Int)),
		"an Assign of a statement":    programOf(statement, over(api.Assign, "x", statement)),
		"an Assign without a value":   programOf(statement, over(api.Assign, "x")),
		"an Assign of two values":     programOf(statement, over(api.Assign, "x", number(1), number(2))),
		"a Store of one value":        programOf(statement, over(api.Store, "a", number(1))),
		"an In of a Var":              programOf(statement, over(api.In, "x", name("lo"))),
		"an Out without a value":      programOf(statement, over(api.Out, "", leaf(api.Chan, "lo", 0))),
		"an Out with a Text":          programOf(statement, over(api.Out, "x", leaf(api.Chan, "lo", 0), number(1))),
		"an Out of a Ref":             programOf(statement, over(api.Out, "", leaf(api.Ref, "lo", 0), number(1))),
		"an If with one Block":        programOf(statement, over(api.If, "", name("b"), block())),
		"an If without a condition":   programOf(statement, over(api.If, "", block(), block())),
		"a While with two Blocks":     programOf(statement, over(api.While, "", name("b"), block(), block())),
		"a While over a statement":    programOf(statement, over(api.While, "", name("b"), statement)),
		"a Call of nothing":           programOf(statement, over(api.Call, "x")),
		"a Call of a Var":             programOf(statement, over(api.Call, "x", name("f"))),
		"a Call of two Refs":          programOf(statement, over(api.Call, "x", leaf(api.Ref, "f", 0), leaf(api.Ref, "g", 0))),
		"a Call into a keyword":       programOf(statement, over(api.Call, "out", leaf(api.Ref, "f", 0))),
		"a Return of two values":      programOf(statement, over(api.Return, "", number(1), number(2))),
		"a Return with a Text":        programOf(statement, over(api.Return, "x")),
		"a Throw of nothing":          programOf(statement, over(api.Throw, "")),
		"a Try without a name":        programOf(statement, over(api.Try, "", block(), block())),
		"a Try with one Block":        programOf(statement, over(api.Try, "e", block())),
		"a New without a name":        programOf(statement, over(api.New, "", number(1))),
		"a negative Const":            programOf(statement, over(api.Throw, "", number(-1))),
		"a Truth of 2":                programOf(statement, over(api.Throw, "", leaf(api.Truth, "", 2))),
		"a Var that is a keyword":     programOf(statement, over(api.Throw, "", name("true"))),
		"a Var of 21 bytes":           programOf(statement, over(api.Throw, "", name(strings.Repeat("x", 21)))),
		"a Unary with another sign":   programOf(statement, over(api.Throw, "", over(api.Unary, "+", number(1)))),
		"a Binary with another sign":  programOf(statement, over(api.Throw, "", over(api.Binary, "=", number(1), number(1)))),
		"a node of no kind":           programOf(statement, leaf(0, "", 0)),
		"a node of a kind behind all": programOf(statement, over(api.Throw, "", leaf(28, "", 0))),
	} {
		if !tree.Sound(x) {
			t.Fatal(why, "is not sound")
		}
		refuseAll(t, why, x)
	}
}

// TestR1OneThingChanged: a program with one field of one node changed is printed if it is still valid, and is not if it isn't.
func TestR1OneThingChanged(t *testing.T) {
	x := everyKind()
	printed, refused := 0, 0
	hold := func(place int, change func(n *api.Node)) {
		y := copied(x)
		change(&y.Nodes[place])
		if tree.Right(y) {
			printed++
			holdProgram(t, y)
		} else {
			refused++
			refuseAll(t, "a program with a change", y)
		}
	}
	for place := range x.Nodes {
		for _, text := range wrongTexts {
			hold(place, func(n *api.Node) { n.Text = text })
		}
		for _, n := range wrongNumbers {
			hold(place, func(node *api.Node) { node.N = n })
		}
		for kind := -1; kind <= 29; kind++ {
			hold(place, func(n *api.Node) { n.Kind = kind })
		}
	}
	if printed < 200 || refused < 1000 {
		t.Error(printed, refused)
	}
}

var (
	wrongTexts   = []string{"", "x", "-", "!", "+", "%", "<=", "||", "=", "&", "(", "--", " ", "x ", " x", "1", "1a", "a b", "é", "x\x00", "\n", "if", "true", "len", "_", "If", strings.Repeat("x", 20), strings.Repeat("x", 21)}
	wrongNumbers = []int{math.MinInt, -1, 0, 1, 2, 4, 5, 6, math.MaxInt}
)

// TestR1ExprShapes: all that a node may be, over as many expressions as it may have, by itself and below another.
func TestR1ExprShapes(t *testing.T) {
	printed, refused := 0, 0
	for kind := -1; kind <= 29; kind++ {
		for _, text := range wrongTexts {
			for _, n := range wrongNumbers {
				for size := range 4 {
					kids := []api.Tree{name("a"), over(api.Binary, "-", name("b"), number(1)), leaf(api.Addr, "c", 0)}[:size]
					x := tree.Over(api.Node{Kind: kind, Text: text, N: n}, kids)
					if modelShaped(x.Nodes[x.Root]) {
						printed++
						holdExpr(t, x)
						holdExpr(t, over(api.Binary, "*", number(1), over(api.Unary, "-", x)))
						continue
					}
					refused++
					if got := Expr(x) + Expr(over(api.Index, "a", x)) + Expr(over(api.Binary, "*", x, number(1))); got != "" {
						t.Fatalf("kind %d, text %q, n %d, over %d: %q", kind, text, n, size, got)
					}
				}
			}
		}
	}
	if printed != 32 || refused < 10000 { // 7 Consts, 2 Truths, 4 names of 4 kinds, 2 signs and 5 operators
		t.Error(printed, refused)
	}
}

// TestR1ExprPlainly: the same, told one by one.
func TestR1ExprPlainly(t *testing.T) {
	one := number(1)
	for why, x := range map[string]api.Tree{
		"a Program":                  over(api.Program, ""),
		"a Block":                    block(),
		"a Chan":                     leaf(api.Chan, "lo", 0),
		"a Ref":                      leaf(api.Ref, "f", 0),
		"a Global":                   leaf(api.Global, "g", api.Int),
		"a statement":                over(api.Assign, "x", one),
		"a Return":                   over(api.Return, ""),
		"a statement below":          over(api.Unary, "-", over(api.Assign, "x", one)),
		"a Ref below":                over(api.Binary, "+", one, leaf(api.Ref, "f", 0)),
		"a Chan far below":           over(api.Index, "a", over(api.Unary, "-", over(api.Binary, "+", leaf(api.Chan, "c", 0), one))),
		"a negative Const":           number(-1),
		"the least Const":            number(math.MinInt),
		"a Const with a Text":        leaf(api.Const, "1", 1),
		"a Const with a child":       tree.Over(api.Node{Kind: api.Const, N: 1}, []api.Tree{one}),
		"a Truth of 2":               leaf(api.Truth, "", 2),
		"a Truth of -1":              leaf(api.Truth, "", -1),
		"a Truth with a Text":        leaf(api.Truth, "true", 1),
		"a Var without a name":       name(""),
		"a Var that is a keyword":    name("in"),
		"a Var of 21 bytes":          name(strings.Repeat("y", 21)),
		"a Var with an N":            leaf(api.Var, "x", 1),
		"a Var with a child":         over(api.Var, "x", one),
		"an Index of nothing":        over(api.Index, "a"),
		"an Index of two":            over(api.Index, "a", one, one),
		"an Index without a name":    over(api.Index, "", one),
		"a Length of a keyword":      leaf(api.Length, "len", 0),
		"a Length with a child":      over(api.Length, "a", one),
		"an Addr with an N":          leaf(api.Addr, "f", -1),
		"an Addr without a name":     leaf(api.Addr, "", 0),
		"a Unary of nothing":         over(api.Unary, "-"),
		"a Unary of two":             over(api.Unary, "-", one, one),
		"a Unary with a plus":        over(api.Unary, "+", one),
		"a Unary without a sign":     over(api.Unary, "", one),
		"a Binary of one":            over(api.Binary, "+", one),
		"a Binary of three":          over(api.Binary, "+", one, one, one),
		"a Binary with a mere bang":  over(api.Binary, "!", one, one),
		"a Binary that assigns":      over(api.Binary, "=", one, one),
		"a Binary with a single and": over(api.Binary, "&", one, one),
		"no kind":                    leaf(0, "x", 0),
		"a kind behind all":          leaf(28, "x", 0),
	} {
		if !tree.Sound(x) {
			t.Fatal(why, "is not sound")
		}
		if got := Expr(x); got != "" {
			t.Errorf("%s: %q", why, got)
		}
	}
}

// stacked is an expression of just this depth, made by one step over and over.
func stacked(depth int, step func(below api.Tree) api.Tree) api.Tree {
	x := name("x")
	for range depth - 1 {
		x = step(x)
	}
	return x
}

func steps() []func(below api.Tree) api.Tree {
	return []func(below api.Tree) api.Tree{
		func(below api.Tree) api.Tree { return over(api.Unary, "-", below) },
		func(below api.Tree) api.Tree { return over(api.Index, "a", below) },
		func(below api.Tree) api.Tree { return over(api.Binary, "-", below, number(1)) },
		func(below api.Tree) api.Tree { return over(api.Binary, "-", number(1), below) },
	}
}

func TestR1DepthOfExpressions(t *testing.T) {
	for i, step := range steps() {
		for _, depth := range []int{1, 2, 35, 36, 37, 38, 39, 40} {
			holdExpr(t, stacked(depth, step))
		}
		for _, depth := range []int{41, 42, 80, 1000} {
			if got := Expr(stacked(depth, step)); got != "" {
				t.Errorf("step %d, depth %d: %q", i, depth, got)
			}
		}
	}
}

// TestR1DepthOfPrograms: of expressions in statements and of Blocks in one another; Program, Proc, Block and statement are 4.
func TestR1DepthOfPrograms(t *testing.T) {
	for _, step := range steps() {
		for _, s := range []func(x api.Tree) api.Tree{
			func(x api.Tree) api.Tree { return over(api.Throw, "", x) },
			func(x api.Tree) api.Tree { return over(api.Store, "a", x, number(1)) },
			func(x api.Tree) api.Tree { return over(api.Call, "", leaf(api.Ref, "f", 0), number(1), x) },
			func(x api.Tree) api.Tree { return over(api.While, "", x, block()) },
		} {
			holdProgram(t, programOf(s(stacked(36, step))))
			refuseAll(t, "an expression that is too deep", programOf(s(stacked(37, step))))
		}
	}
	nested := func(depth int) api.Tree { // a Block of just this depth, 3 or more
		x := block(over(api.Throw, "", number(1)))
		if depth%2 == 0 {
			x = block(over(api.Throw, "", over(api.Unary, "-", number(1))))
		}
		for tree.Depth(x) < depth {
			x = block(over(api.If, "", name("b"), x, block()))
		}
		return x
	}
	for _, depth := range []int{3, 4, 37, 38} {
		holdProgram(t, over(api.Program, "", over(api.Proc, "f", nested(depth))))
	}
	for _, depth := range []int{39, 40, 41, 100} {
		refuseAll(t, "Blocks that are too deep", over(api.Program, "", over(api.Proc, "f", nested(depth))))
	}
}

// TestR1Size: 4000 nodes are printed, 4001 are not.
func TestR1Size(t *testing.T) {
	statements := slices.Repeat([]api.Tree{over(api.Return, "")}, 3998)
	for size, want := range map[int]string{3996: strings.Repeat("  return;\n", 3996), 3997: strings.Repeat("  return;\n", 3997)} {
		wantProgram(t, programOf(statements[:size]...), "proc f() {\n"+want+"}\n")
	}
	x := programOf(statements[:3997]...)
	if len(x.Nodes) != 4000 || Line(x, 0) != "return" || Line(x, 3996) != "return" || Line(x, 3997) != "" {
		t.Error(len(x.Nodes), Line(x, 0), Line(x, 3996), Line(x, 3997))
	}
	refuseAll(t, "a program of 4001 nodes", programOf(statements...))
	for _, size := range []int{3996, 3999, 4000} {
		x := sized(size, "x")
		if got := Expr(x); len(x.Nodes) != size || got == "" || got != modelExpr(x) {
			t.Errorf("an expression of %d nodes: %.200q", len(x.Nodes), got)
		}
	}
	if got := Expr(sized(4001, "x")); got != "" {
		t.Errorf("an expression of 4001 nodes: %.200q", got)
	}
}

// sized is a flat expression of just so many nodes, with this name in all of its leaves.
func sized(size int, text string) api.Tree {
	switch size {
	case 1:
		return name(text)
	case 2:
		return over(api.Unary, "-", name(text))
	}
	half := (size - 1) / 2
	return over(api.Binary, "+", sized(half, text), sized(size-1-half, text))
}

func TestR1LinePlaces(t *testing.T) {
	x := everyKind()
	statements := 0
	for place, n := range x.Nodes {
		switch n.Kind {
		case api.Assign, api.Store, api.In, api.Out, api.If, api.While, api.Call, api.Return, api.Throw, api.Try, api.New:
			statements++
			if Line(x, place) == "" {
				t.Error("no line at", place)
			}
		default:
			if got := Line(x, place); got != "" {
				t.Error(place, got)
			}
		}
	}
	if statements != 13 {
		t.Error(statements)
	}
	for _, place := range []int{-1, -2, math.MinInt, len(x.Nodes), len(x.Nodes) + 1, 4000, 1 << 32, 1<<32 + 1, math.MaxInt} {
		if got := Line(x, place); got != "" {
			t.Error(place, got)
		}
	}
}

// TestR1LineWantsTheWholeTree: a statement is printed only where the whole tree is valid.
func TestR1LineWantsTheWholeTree(t *testing.T) {
	statement := over(api.Assign, "x", number(1))
	for _, x := range []api.Tree{statement, block(statement), procOf(statement), over(api.Program, "", statement), number(1)} {
		refuseLines(t, "a tree that is no program", x)
	}
	x := programOf(statement, over(api.Throw, "", number(1)))
	if Line(x, statement.Root) != "x = 1" {
		t.Error(Line(x, statement.Root))
	}
	y := copied(x)
	y.Nodes[2].N = -1 // the Const below the Throw
	refuseLines(t, "a fault beside the statement", y)
	if got := Program(over(api.Unary, "-", number(1))) + Expr(x); got != "" {
		t.Error(got)
	}
}
