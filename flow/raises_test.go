package flow

import (
	"math"
	"slices"
	"testing"

	"runnel/api"
)

// Expressions of an Int, by what they hold that raises: at the top, deep below, nowhere.
func raisingInts() []string {
	return []string{
		"a[0]", "a[x]", "x / 2", "x % 2", "a[1 / x]", "1 / 0", "x / y / 2", "a[a[0]]",
		"-a[0]", "-(x / 2)", "-(x % y)", "1 + a[0]", "a[0] + 1", "1 + -(2 * (x / 3))", "x * y - (x + -(-(x % 2)))", "len a + (1 + a[x + 1] * 2)", "- - -a[0]", "1 + (x - (2 * (3 + (x / 7))))",
	}
}

func calmInts() []string {
	return []string{"x", "1", "0", "len a", "-x", "x + y", "x - 1", "x * 2", "-(x + 2 * 3) - len a", "x * -(y - (x + 1))"}
}

func raisingBools() []string {
	return []string{"a[0] < 1", "x / 2 == 1", "1 >= x % 2", "!(a[0] == 1)", "b && x / 2 < 1", "b || !(b && (b == (1 != x % 2)))", "false && a[0] > 0", "b == (x <= a[1])"}
}

func calmBools() []string {
	return []string{"b", "true", "false", "!b", "x < 1", "x <= y", "x > 1", "x >= 1", "x == 1", "x != 1", "b == true", "b != b", "b && x * 2 - 1 < len a || !(b || -x == 3)"}
}

// rowOf is a statement with marks for an Int or a Bool, and whether it raises whatever these are.
type rowOf struct {
	kind   int
	text   string
	bools  bool
	always bool
}

func rows() []rowOf {
	return []rowOf{
		{api.Assign, "x = @0;", false, false},
		{api.Assign, "g = @0;", false, false},
		{api.Assign, "b = @0;", true, false},
		{api.Store, "a[@0] = 1;", false, true},
		{api.Store, "a[0] = @0;", false, true},
		{api.Out, "out lo @0;", false, false},
		{api.If, "if @0 { }", true, false},
		{api.If, "if @0 { x = 1; } else { x = 2; }", true, false},
		{api.If, "if @0 { a[0] = 1 / 0; } else { throw 1; }", true, false},
		{api.While, "while @0 { }", true, false},
		{api.While, "while @0 { a = new 1 / 0; call f(1); }", true, false},
		{api.Call, "x = call f(@0);", false, true},
		{api.Call, "call u(@0);", false, true},
		{api.Throw, "throw @0;", false, true},
		{api.New, "a = new @0;", false, true},
	}
}

// only is the place of the first node of a kind that belongs to a procedure; the main of the tests stands first.
func only(t *testing.T, x api.Tree, kind int) int {
	t.Helper()
	place := slices.IndexFunc(x.Nodes, func(n api.Node) bool { return n.Kind == kind })
	if place < 0 {
		t.Fatal("no node of kind", kind)
	}
	return place
}

// TestF1RaisesOfStatements: each kind of statement with each kind of expression.
func TestF1RaisesOfStatements(t *testing.T) {
	for _, row := range rows() {
		raising, calm := raisingInts(), calmInts()
		if row.bools {
			raising, calm = raisingBools(), calmBools()
		}
		for i, value := range append(slices.Clone(raising), calm...) {
			text := mainHead + fill(row.text, value) + mainTail
			x := parsed(t, text)
			want := row.always || i < len(raising)
			if got := Raises(x, only(t, x, row.kind)); got != want {
				t.Errorf("%s: %v", text, got)
			}
			holdRaises(t, x)
			hold(t, x)
		}
	}
}

// TestF1RaisesOfReturn: a Return raises for its value, if it has one.
func TestF1RaisesOfReturn(t *testing.T) {
	frame := "proc f(x int) int { var y int; var b bool; var a arr; return @0; } proc main() { }"
	for i, value := range append(raisingInts(), calmInts()...) {
		x := parsed(t, fill(frame, value))
		if got := Raises(x, only(t, x, api.Return)); got != (i < len(raisingInts())) {
			t.Error(value, got)
		}
		holdRaises(t, x)
	}
	frame = "proc f(x int) bool { var y int; var b bool; var a arr; return @0; } proc main() { }"
	for i, value := range append(raisingBools(), calmBools()...) {
		x := parsed(t, fill(frame, value))
		if got := Raises(x, only(t, x, api.Return)); got != (i < len(raisingBools())) {
			t.Error(value, got)
		}
		holdRaises(t, x)
	}
	for _, text := range []string{"proc main() { return; }", "proc f() fun { return &g; } proc g(x int) int { return x; } proc main() { }", "proc f(a arr) arr { return a; } proc main() { }"} {
		x := parsed(t, text)
		if Raises(x, only(t, x, api.Return)) {
			t.Error(text)
		}
	}
}

// TestF1RaisesOfTheRest: an In, a Try, a Call that hands in nothing, and arrays and funs as values.
func TestF1RaisesOfTheRest(t *testing.T) {
	for statement, want := range map[string]bool{
		"x = in lo;": false, "g = in hi;": false, "u = &f;": false, "a = a;": false, "u = u;": false,
		"try { } catch x { }": false, "try { } catch x { x = 1; }": false,
		"call main();": true, "a = call make(1);": true, "call u(1);": true, "throw 1;": true, "a = new 0;": true, "a[0] = 0;": true,
	} {
		x := parsed(t, mainHead+statement+mainTail)
		kids := x.Nodes[only(t, x, api.Proc)].Kids
		place := x.Nodes[kids[len(kids)-1]].Kids[0]
		if got := Raises(x, place); got != want {
			t.Errorf("%s: %v", statement, got)
		}
		holdRaises(t, x)
	}
	x := parsed(t, mainHead+"try { x = 1 / 0; throw 1; a[0] = a[1]; } catch x { x = 1 / 0; throw 1; call f(a[1]); }"+mainTail)
	if Raises(x, only(t, x, api.Try)) {
		t.Error("a Try raises")
	}
	holdRaises(t, x)
}

// TestF1RaisesOfExpressions: of each node of an expression, from the top down.
func TestF1RaisesOfExpressions(t *testing.T) {
	// From place 6 on: b, x, 1, +, len a, y, a[y], -, 2, %, *, <, !, &&, and the Assign.
	x := parsed(t, mainHead+"b = b && !(x + 1 < len a * (-a[y] % 2));"+mainTail)
	want := map[int]bool{12: true, 13: true, 15: true, 16: true, 17: true, 18: true, 19: true, 20: true}
	for place := range x.Nodes[:21] {
		if got := Raises(x, place); got != want[place] {
			t.Error(place, x.Nodes[place], got)
		}
	}
	if x.Nodes[12].Kind != api.Index || x.Nodes[15].Text != "%" || x.Nodes[20].Kind != api.Assign {
		t.Fatal("the places of the test are wrong", x.Nodes)
	}
	for sign, want := range map[string]bool{"+": false, "-": false, "*": false, "/": true, "%": true} {
		x := parsed(t, mainHead+"x = x "+sign+" y;"+mainTail)
		if got := Raises(x, only(t, x, api.Binary)); got != want {
			t.Error(sign, got)
		}
	}
	for _, sign := range []string{"==", "!=", "<", "<=", ">", ">="} {
		x := parsed(t, mainHead+"b = x "+sign+" y;"+mainTail)
		if Raises(x, only(t, x, api.Binary)) {
			t.Error(sign)
		}
	}
	for _, sign := range []string{"&&", "||"} {
		x := parsed(t, mainHead+"b = b "+sign+" b;"+mainTail)
		if Raises(x, only(t, x, api.Binary)) {
			t.Error(sign)
		}
	}
}

// TestF1RaisesOfNeither: what is neither an expression nor a statement doesn't raise, whatever is below it; nor does a place outside.
func TestF1RaisesOfNeither(t *testing.T) {
	x := parsed(t, mainHead+"out lo a[0]; call f(1 / 0); if a[0] < 1 { throw 1; } while true { a[0] = 1; } try { throw 1; } catch y { throw 2; } x = in hi; return;"+mainTail)
	seen := map[int]int{}
	for place, n := range x.Nodes {
		switch n.Kind {
		case api.Program, api.Global, api.Proc, api.Param, api.Local, api.Block, api.Chan, api.Ref:
			seen[n.Kind]++
			if Raises(x, place) {
				t.Error(place, n)
			}
		}
	}
	if len(seen) != 8 {
		t.Error(seen)
	}
	holdRaises(t, x)
	for _, place := range []int{math.MinInt, -1 << 40, -2, -1, len(x.Nodes), len(x.Nodes) + 1, 4000, 1 << 31, 1 << 40, math.MaxInt} {
		if Raises(x, place) {
			t.Error(place)
		}
	}
}
