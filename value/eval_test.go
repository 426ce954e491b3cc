package value

import (
	"math"
	"slices"
	"strings"
	"testing"

	"runnel/api"
	"runnel/parse"
	"runnel/tree"
	"runnel/types"
)

// Programs of these tests have this around their statements: a variable of each type twice, and Globals that one of them hides or doesn't.
const (
	head = "var g int; var k bool; var p arr; var h fun; var x bool; proc f(x int) int { return x; } proc main() { var x int; var y int; var b bool; var c bool; var a arr; var d arr; var u fun; var v fun; "
	tail = " } proc late(z int) int { return z; }"
)

// expression is a program without an error that has a text as an expression of a type, and the place of that.
func expression(t *testing.T, kind int, text string) (api.Tree, int) {
	t.Helper()
	x := parsed(t, head+[]string{"", "x", "b", "a", "u"}[kind]+" = "+text+";"+tail)
	found := -1
	for _, n := range x.Nodes {
		if n.Kind == api.Assign {
			found = n.Kids[0]
		}
	}
	return x, found
}

// sampleHeap has the array 1 of 7, 0, -3, the array 2 of none, and the array 3 of 5.
func sampleHeap() *Heap {
	var h Heap
	h.New(3)
	h.New(0)
	h.New(1)
	h.Set(arr(1), num(0), num(7))
	h.Set(arr(1), num(2), num(-3))
	h.Set(arr(3), num(0), num(5))
	return &h
}

// sampleNames have a value for each variable but c, y and v.
func sampleNames() []Name {
	return []Name{{"x", num(4)}, {"b", is(1)}, {"a", arr(1)}, {"d", arr(3)}, {"u", fun(7)}, {"g", num(-2)}, {"k", is(0)}, {"p", arr(2)}, {"h", fun(0)}}
}

// wantEval wants that an expression of a type is worth this in the sample, or raises this.
func wantEval(t *testing.T, kind int, text string, want Value, wantE int) {
	t.Helper()
	wantEvalWith(t, kind, text, sampleNames(), want, wantE)
}

func wantEvalWith(t *testing.T, kind int, text string, names []Name, want Value, wantE int) {
	t.Helper()
	x, place := expression(t, kind, text)
	if v, e := Eval(x, place, names, sampleHeap()); v != want || e != wantE {
		t.Errorf("%s is %v, %d, not %v, %d", text, v, e, want, wantE)
	}
}

// TestV4EachKind: each kind of expression.
func TestV4EachKind(t *testing.T) {
	wantEval(t, api.Int, "0", num(0), 0)
	wantEval(t, api.Int, "17", num(17), 0)
	wantEval(t, api.Int, "9223372036854775807", num(math.MaxInt), 0)
	wantEval(t, api.Bool, "true", is(1), 0)
	wantEval(t, api.Bool, "false", is(0), 0)
	wantEval(t, api.Int, "x", num(4), 0)
	wantEval(t, api.Int, "g", num(-2), 0)
	wantEval(t, api.Bool, "b", is(1), 0)
	wantEval(t, api.Bool, "k", is(0), 0)
	wantEval(t, api.Arr, "a", arr(1), 0)
	wantEval(t, api.Arr, "p", arr(2), 0)
	wantEval(t, api.Fun, "u", fun(7), 0)
	wantEval(t, api.Fun, "h", fun(0), 0)
	wantEval(t, api.Int, "a[0]", num(7), 0)
	wantEval(t, api.Int, "a[2]", num(-3), 0)
	wantEval(t, api.Int, "a[x - 3]", num(0), 0)
	wantEval(t, api.Int, "d[0]", num(5), 0)
	wantEval(t, api.Int, "len a", num(3), 0)
	wantEval(t, api.Int, "len p", num(0), 0)
	wantEval(t, api.Int, "len d", num(1), 0)
	wantEval(t, api.Int, "-x", num(-4), 0)
	wantEval(t, api.Int, "-a[2]", num(3), 0)
	wantEval(t, api.Bool, "!b", is(0), 0)
	wantEval(t, api.Bool, "!(x < 4)", is(1), 0)
}

// TestV4Signs: each operator of two values, in an expression.
func TestV4Signs(t *testing.T) {
	for text, n := range map[string]int{
		"x + 3": 7, "x - 7": -3, "x * g": -8, "(0 - 7) / 2": -3, "(0 - 7) % 2": -1, "9 / x": 2, "9 % x": 1,
		"1 + 2 * x": 9, "(1 + 2) * x": 12, "x - 1 - 1": 2, "x - (1 - 1)": 4, "9223372036854775807 + 1": math.MinInt,
		"(-9223372036854775807 - 1) / (0 - 1)": math.MinInt, "(-9223372036854775807 - 1) % (0 - 1)": 0, "-(-9223372036854775807 - 1)": math.MinInt,
		"a[0] + a[2] * len a": -2, "a[a[0] - 5 + len p]": -3, "a[a[1]]": 7,
	} {
		wantEval(t, api.Int, text, num(n), 0)
	}
	for text, n := range map[string]int{
		"x == 4": 1, "x == 3": 0, "x != 4": 0, "x != 3": 1, "x < 4": 0, "x < 5": 1, "x <= 3": 0, "x <= 4": 1, "x > 4": 0, "x > 3": 1, "x >= 5": 0, "x >= 4": 1,
		"b == true": 1, "b == k": 0, "b != k": 1, "k != k": 0, "b && b": 1, "b && k": 0, "k && b": 0, "k || k": 0, "k || b": 1, "b || k": 1,
		"!(x < 3) && b": 1, "(x == 4) == (g < 0)": 1, "b && !k || k": 1,
	} {
		wantEval(t, api.Bool, text, is(n), 0)
	}
}

// TestV4Addr: a procedure is 1 plus its place, ahead of the expression and behind it.
func TestV4Addr(t *testing.T) {
	for _, name := range []string{"f", "late"} {
		x, place := expression(t, api.Fun, "&"+name)
		v, e := Eval(x, place, nil, &Heap{})
		if v.Kind != api.Fun || e != 0 || v.N < 1 || v.N > len(x.Nodes) {
			t.Fatal(v, e)
		}
		if n := x.Nodes[v.N-1]; n.Kind != api.Proc || n.Text != name {
			t.Error(name, n)
		}
	}
	// The procedure at hand is at place 4: below it are a Param, a Var, a Return and a Block.
	x := parsed(t, "proc f(x int) int { return x; } proc main() { var f fun; f = &f; }")
	place := slices.IndexFunc(x.Nodes, func(n api.Node) bool { return n.Kind == api.Addr })
	if v, e := Eval(x, place, []Name{{"f", fun(99)}}, &Heap{}); v != fun(5) || e != 0 {
		t.Error(v, e)
	}
}

// TestV4Names: names that stand twice, that are missing, that nobody asks for.
func TestV4Names(t *testing.T) {
	twice := []Name{{"", num(1)}, {"y", num(8)}, {"x", num(1)}, {"x", num(2)}, {"x", is(1)}, {"a", arr(3)}, {"a", arr(1)}, {"X", num(3)}, {"xx", num(5)}, {"b", is(0)}, {"b", is(1)}}
	wantEvalWith(t, api.Int, "x", twice, num(1), 0)
	wantEvalWith(t, api.Int, "x + x", twice, num(2), 0)
	wantEvalWith(t, api.Int, "a[0]", twice, num(5), 0)
	wantEvalWith(t, api.Int, "len a", twice, num(1), 0)
	wantEvalWith(t, api.Arr, "a", twice, arr(3), 0)
	wantEvalWith(t, api.Bool, "b", twice, is(0), 0)
	wantEvalWith(t, api.Bool, "!b", twice, is(1), 0)
	slices.Reverse(twice)
	wantEvalWith(t, api.Int, "x", twice, is(1), 0)
	wantEvalWith(t, api.Int, "a[0]", twice, num(7), 0)
	wantEvalWith(t, api.Bool, "!b", twice, is(0), 0)
	for _, names := range [][]Name{nil, {}, {{"z", num(1)}}, {{"", num(1)}, {"X", num(1)}, {"x ", num(2)}, {"xx", num(3)}}} {
		wantEvalWith(t, api.Int, "x", names, Value{}, 0)
		wantEvalWith(t, api.Bool, "b", names, Value{}, 0)
		wantEvalWith(t, api.Arr, "a", names, Value{}, 0)
		wantEvalWith(t, api.Fun, "u", names, Value{}, 0)
		wantEvalWith(t, api.Int, "x + 1", names, num(0), 0)
		wantEvalWith(t, api.Int, "1 + (x + 1)", names, num(1), 0)
		wantEvalWith(t, api.Int, "-x", names, num(0), 0)
		wantEvalWith(t, api.Bool, "!b", names, is(0), 0)
		wantEvalWith(t, api.Bool, "!!b", names, is(1), 0)
		wantEvalWith(t, api.Bool, "x == x", names, is(0), 0)
		wantEvalWith(t, api.Int, "len a", names, num(0), 0)
		wantEvalWith(t, api.Int, "a[0]", names, Value{}, Missing)
		wantEvalWith(t, api.Int, "a[x]", names, Value{}, Missing)
	}
	// A name is that of a variable, whoever declares it: Eval knows no scopes.
	wantEvalWith(t, api.Int, "g", []Name{{"g", num(3)}}, num(3), 0)
}

// TestV4OtherKinds: variables whose values are of another kind than they are. What an operator doesn't take makes the zero of its type, also where one of its values would fit, or divides by 0.
func TestV4OtherKinds(t *testing.T) {
	for _, v := range []Value{{}, is(0), is(1), arr(0), arr(1), fun(0), fun(1), {5, 1}, {-1, 1}, {math.MinInt, math.MaxInt}} {
		names := []Name{{"x", v}, {"y", num(5)}, {"a", arr(1)}}
		wantEvalWith(t, api.Int, "x", names, v, 0)
		for _, text := range []string{"x + 1", "1 + x", "x - y", "y * x", "y / x", "x / y", "x % y", "x / 0", "x % 0", "0 / x", "-x", "x * 9223372036854775807", "-x + -x", "x + x * y"} {
			wantEvalWith(t, api.Int, text, names, num(0), 0)
		}
		for _, text := range []string{"x < 1", "y <= x", "x > y", "y >= x", "x == y", "y != x", "x < y && true"} {
			wantEvalWith(t, api.Bool, text, names, is(0), 0)
		}
		wantEvalWith(t, api.Bool, "!(x < y)", names, is(1), 0)
		wantEvalWith(t, api.Int, "y + (x + 1)", names, num(5), 0)
		wantEvalWith(t, api.Int, "1 / (x + 1)", names, Value{}, Nought)
		wantEvalWith(t, api.Int, "a[x]", names, Value{}, Range)
		wantEvalWith(t, api.Int, "a[x + 9]", names, num(7), 0)
	}
	for _, v := range []Value{{}, num(0), num(1), arr(1), fun(1), {5, 1}} {
		names := []Name{{"b", v}, {"c", is(1)}, {"k", is(0)}}
		wantEvalWith(t, api.Bool, "b", names, v, 0)
		for _, text := range []string{"b && c", "c && b", "b || c", "c || b", "c == b", "b != c", "!b", "b == k"} {
			wantEvalWith(t, api.Bool, text, names, is(0), 0)
		}
		wantEvalWith(t, api.Bool, "!b == c", names, is(0), 0)
		wantEvalWith(t, api.Bool, "!b == k", names, is(1), 0)
	}
	for _, v := range []Value{{}, num(1), is(1), fun(1), {5, 1}, arr(0), arr(4), arr(-1), arr(math.MinInt), arr(math.MaxInt)} {
		names := []Name{{"a", v}}
		wantEvalWith(t, api.Arr, "a", names, v, 0)
		wantEvalWith(t, api.Int, "len a", names, num(0), 0)
		wantEvalWith(t, api.Int, "a[0]", names, Value{}, Missing)
		wantEvalWith(t, api.Int, "a[100]", names, Value{}, Missing)
	}
	// Values that fit each other, though not their variables.
	ints := []Name{{"b", num(2)}, {"c", num(3)}}
	wantEvalWith(t, api.Bool, "b == c", ints, is(0), 0)
	wantEvalWith(t, api.Bool, "b != c", ints, is(1), 0)
	bools := []Name{{"x", is(3)}, {"y", is(1)}}
	wantEvalWith(t, api.Bool, "x == y", bools, is(1), 0)
	wantEvalWith(t, api.Bool, "x != y", bools, is(0), 0)
	wantEvalWith(t, api.Int, "x + y", bools, num(0), 0)
}

// TestV4BoolsOfAnyNumber: a variable's Bool with another N than 0 and 1 counts as true.
func TestV4BoolsOfAnyNumber(t *testing.T) {
	for _, n := range []int{-1, 2, 7, math.MinInt, math.MaxInt} {
		names := []Name{{"b", is(n)}, {"c", is(1)}}
		wantEvalWith(t, api.Bool, "!b", names, is(0), 0)
		wantEvalWith(t, api.Bool, "b == c", names, is(1), 0)
		wantEvalWith(t, api.Bool, "b && c", names, is(1), 0)
		wantEvalWith(t, api.Bool, "b || false", names, is(1), 0)
		wantEvalWith(t, api.Bool, "b != b", names, is(0), 0)
	}
}

// TestV4FirstException: of two children the first one's exception is told, whatever the other raises, and an expression's own comes after those of its children.
func TestV4FirstException(t *testing.T) {
	for text, want := range map[string]int{
		"1 / 0": Nought, "1 % 0": Nought, "a[3]": Range, "a[-1]": Range, "p[0]": Range,
		"1 / 0 + a[9]": Nought, "a[9] + 1 / 0": Range, "a[9] / 0": Range, "(1 / 0) / 0": Nought, "(1 % 0) * a[9]": Nought,
		"1 / (1 / 0)": Nought, "1 / a[9]": Range, "1 + (2 + a[3] * (1 / 0))": Range, "-(1 / 0)": Nought, "-a[3]": Range, "-a[1 / 0]": Nought,
		"a[a[9]]": Range, "a[1 / 0]": Nought, "a[a[1 % 0] + a[9]]": Nought, "d[0] / a[1]": Nought, "1 / len p": Nought,
	} {
		wantEval(t, api.Int, text, Value{}, want)
	}
	// The variable a is asked once the index is known: what that raises is told first.
	missing := []Name{{"a", arr(0)}, {"d", arr(1)}}
	for text, want := range map[string]int{
		"a[0]": Missing, "a[9]": Missing, "a[1 / 0]": Nought, "a[d[9]]": Range, "d[a[0]]": Missing, "a[0] + 1 / 0": Missing, "1 / 0 + a[0]": Nought, "d[9] + a[0]": Range, "a[0] + d[9]": Missing,
	} {
		wantEvalWith(t, api.Int, text, missing, Value{}, want)
	}
	// Both children are evaluated, even where the first one settles it.
	for text, want := range map[string]int{
		"false && 1 / 0 == 1": Nought, "true || 1 / 0 == 1": Nought, "true && a[9] == 1": Range, "false || a[9] == 1": Range,
		"1 / 0 == 1 && a[9] == 1": Nought, "a[9] == 1 || 1 / 0 == 1": Range, "a[9] < 1 / 0": Range, "1 / 0 != a[9]": Nought, "!(1 / 0 == 1)": Nought,
	} {
		wantEval(t, api.Bool, text, Value{}, want)
	}
	wantEval(t, api.Int, "0 * (1 / 0)", Value{}, Nought)
	// An exception ahead of values that don't fit, and behind them.
	names := []Name{{"x", is(1)}, {"a", arr(1)}}
	wantEvalWith(t, api.Int, "x + 1 / 0", names, Value{}, Nought)
	wantEvalWith(t, api.Int, "a[9] + x", names, Value{}, Range)
}

// TestV4NoExpressions: nodes of other kinds, and places outside the tree.
func TestV4NoExpressions(t *testing.T) {
	x := parsed(t, head+"x = -1; a = new 2; a[0] = g; x = in hi; out lo a[1] / 0; u = &f; if !b { call u(len a); } while true { throw x; } try { return; } catch x { x = call f(g / 0); }"+tail)
	names, h := sampleNames(), sampleHeap()
	seen := map[int]bool{}
	for place, n := range x.Nodes {
		if n.Kind < api.Const || n.Kind > api.Binary {
			seen[n.Kind] = true
			if v, e := Eval(x, place, names, h); v != (Value{}) || e != 0 {
				t.Error(n, v, e)
			}
		}
	}
	if len(seen) != api.Ref {
		t.Error(seen)
	}
	for _, place := range append([]int{len(x.Nodes), len(x.Nodes) + 1}, odd...) {
		if v, e := Eval(x, place, names, h); v != (Value{}) || e != 0 {
			t.Error(place, v, e)
		}
	}
}

// wantNoEval wants that nothing of a tree is worth anything: of one that Check doesn't accept.
func wantNoEval(t *testing.T, why string, x api.Tree) {
	t.Helper()
	if _, e := types.Check(x); e == api.OK {
		t.Fatalf("%s: Check accepts it", why)
	}
	places := append([]int{0, 1, 2, 3, x.Root, x.Root - 1, len(x.Nodes) - 1, len(x.Nodes)}, odd...)
	for place := range min(len(x.Nodes), 200) {
		places = append(places, place)
	}
	for _, place := range places {
		if v, e := Eval(x, place, sampleNames(), sampleHeap()); v != (Value{}) || e != 0 {
			t.Errorf("%s: at %d there is %v, %d", why, place, v, e)
		}
	}
}

// TestV4Errors: programs with an error of each sort, among expressions that would be worth something, or raise.
func TestV4Errors(t *testing.T) {
	for text, want := range map[string]api.Errno{
		head + "x = 1 / 0; y = true;" + tail:                                      api.ErrType,
		head + "x = 1 / 0; b = x;" + tail:                                         api.ErrType,
		head + "x = 1 + 2; x = x + b;" + tail:                                     api.ErrType,
		head + "x = a[9]; x = nobody;" + tail:                                     api.ErrName,
		head + "x = len a; u = &main;" + tail:                                     api.ErrType,
		head + "x = len a; u = &nobody;" + tail:                                   api.ErrName,
		head + "x = 7;" + tail + " proc f() { }":                                  api.ErrThere,
		"var x int; " + head + "x = 7;" + tail:                                    api.ErrThere,
		strings.Replace(head, "proc main()", "proc start()", 1) + "x = 7;" + tail: api.ErrMain,
		"proc main(x int) { x = 7 + x; }":                                         api.ErrMain,
		"var x int; proc f() { x = 7 / 0; }":                                      api.ErrMain,
		"":                                                                        api.ErrMain,
	} {
		x, at, e := parse.Program(text)
		if e != api.OK {
			t.Fatal(text, at, e)
		}
		if _, e := types.Check(x); e != want {
			t.Fatal(text, e)
		}
		wantNoEval(t, text, x)
	}
}

// TestV4NotValid: trees that are none, or no programs.
func TestV4NotValid(t *testing.T) {
	x := parsed(t, "var x int; var a arr; proc main() { x = 1 / 0; x = a[7 + x]; x = 3; }")
	last := len(x.Nodes) - 1
	expr, _, _ := parse.Expr("1 + 2")
	one := leaf(api.Const, "", 1)
	in := func(value api.Tree) api.Tree {
		return over(api.Program, "", over(api.Proc, "main", over(api.Block, "", over(api.Throw, "", value))))
	}
	if _, e := types.Check(in(one)); e != api.OK {
		t.Fatal(e)
	}
	for why, y := range map[string]api.Tree{
		"no nodes":                  {},
		"no nodes and a root":       {Root: 1},
		"a node of no kind":         {Nodes: []api.Node{{}}},
		"an expression":             expr,
		"a Const":                   one,
		"a Var":                     leaf(api.Var, "x", 0),
		"a statement":               over(api.Throw, "", one),
		"a Proc":                    over(api.Proc, "main", over(api.Block, "", over(api.Throw, "", one))),
		"a root ahead of the end":   {Nodes: x.Nodes, Root: last - 1},
		"a root at 0":               {Nodes: x.Nodes},
		"a root ahead of all":       {Nodes: x.Nodes, Root: -1},
		"a root behind all":         {Nodes: x.Nodes, Root: last + 1},
		"a root far ahead":          {Nodes: x.Nodes, Root: math.MinInt},
		"a root far behind":         {Nodes: x.Nodes, Root: math.MaxInt},
		"without the last node":     {Nodes: x.Nodes[:last], Root: last - 1},
		"without the first node":    {Nodes: x.Nodes[1:], Root: last - 1},
		"a kid that is itself":      {Nodes: []api.Node{{Kind: api.Index, Text: "a", Kids: []int{0}}}},
		"kids in a ring":            {Nodes: []api.Node{{Kind: api.Unary, Text: "-", Kids: []int{1}}, {Kind: api.Unary, Text: "-", Kids: []int{0}}}, Root: 1},
		"a kid far behind":          {Nodes: []api.Node{{Kind: api.Unary, Text: "-", Kids: []int{math.MaxInt}}}},
		"a Binary of one":           in(over(api.Binary, "+", one)),
		"a Binary of three":         in(over(api.Binary, "+", one, one, one)),
		"a Unary of none":           in(over(api.Unary, "-")),
		"a Unary of two":            in(over(api.Unary, "-", one, one)),
		"an Index of none":          in(over(api.Index, "a")),
		"a Const of a child":        in(over(api.Const, "", one)),
		"a Const below 0":           in(leaf(api.Const, "", -1)),
		"a Truth of 2":              in(over(api.Unary, "-", leaf(api.Truth, "", 2))),
		"an operator there isn't":   in(over(api.Binary, "=", one, one)),
		"a kind behind all":         in(leaf(28, "", 0)),
		"a statement as an operand": in(over(api.Unary, "-", over(api.Throw, "", one))),
		"a million nodes":           {Nodes: make([]api.Node, 1<<20), Root: 1<<20 - 1},
	} {
		wantNoEval(t, why, y)
	}
	deep := one
	for range api.MaxDeep - 4 {
		deep = over(api.Unary, "-", deep)
	}
	if y := in(deep); tree.Depth(y) != api.MaxDeep+1 {
		t.Fatal(tree.Depth(y))
	}
	wantNoEval(t, "too deep", in(deep))
}

// TestV4Deepest: an expression as deep as one may be.
func TestV4Deepest(t *testing.T) {
	for _, sign := range []string{"-", "!"} {
		kind, below, want := api.Int, leaf(api.Const, "", 5), []Value{num(5), num(-5)}
		if sign == "!" {
			kind, below, want = api.Bool, leaf(api.Truth, "", 1), []Value{is(1), is(0)}
		}
		x := leaf(0, "", 0)
		for depth := 1; depth <= 36; depth++ {
			x = over(api.Program, "", leaf(api.Global, "x", kind), over(api.Proc, "main", over(api.Block, "", over(api.Assign, "x", below))))
			if v, e := Eval(x, depth, nil, &Heap{}); v != want[(depth-1)%2] || e != 0 {
				t.Fatal(depth, v, e)
			}
			below = over(api.Unary, sign, below)
		}
		if tree.Depth(x) != api.MaxDeep {
			t.Error(tree.Depth(x))
		}
	}
}

// TestV4Largest: a tree of as many nodes as one may have, with one expression that is most of it, of values that fit and that don't.
func TestV4Largest(t *testing.T) {
	level := []api.Tree{}
	for range 1996 {
		level = append(level, leaf(api.Var, "x", 0))
	}
	for len(level) > 1 {
		var up []api.Tree
		for i := 0; i+1 < len(level); i += 2 {
			up = append(up, over(api.Binary, "+", level[i], level[i+1]))
		}
		if len(level)%2 == 1 {
			up = append(up, level[len(level)-1])
		}
		level = up
	}
	globals := []api.Tree{leaf(api.Global, "x", api.Int), leaf(api.Global, "y", api.Int), leaf(api.Global, "z", api.Int), leaf(api.Global, "g", api.Int)}
	x := over(api.Program, "", append(globals, over(api.Proc, "main", over(api.Block, "", over(api.Assign, "x", over(api.Unary, "-", level[0])))))...)
	if _, e := types.Check(x); e != api.OK || len(x.Nodes) != api.MaxNodes {
		t.Fatal(e, len(x.Nodes))
	}
	place := len(x.Nodes) - 5
	for v, want := range map[Value]Value{num(3): num(-3 * 1996), num(math.MinInt): num(0), is(1): num(0), {}: num(0)} {
		if got, e := Eval(x, place, []Name{{"y", num(1)}, {"x", v}}, &Heap{}); got != want || e != 0 {
			t.Error(v, got, e)
		}
	}
	if v, e := Eval(x, place-1, []Name{{"x", num(3)}}, &Heap{}); v != num(3*1996) || e != 0 {
		t.Error(v, e)
	}
}
