package types

import (
	"slices"
	"strings"
	"testing"

	"runnel/api"
	"runnel/parse"
	"runnel/tree"
)

const head = `var g int; var k bool; var p arr; var h fun;
proc f(x int) int { return x; }
proc pair(a arr, b bool) { }
proc test(x int) bool { return x > 0; }
proc pick(w fun) fun { return w; }
proc make(n int) arr { var a arr; a = new n; return a; }
proc five() int { return 5; }
proc main() { var x int; var y int; var b bool; var c bool; var a arr; var d arr; var u fun; var v fun; `

// body is a program whose main has these statements, with variables of each type: Ints x, y, g, Bools b, c, k, Arrs a, d, p, Funs u, v, h.
func body(statements string) string { return head + statements + " }" }

func wantOK(t *testing.T, text string) {
	t.Helper()
	x := parsed(t, text)
	if place, e := Check(x); place != 0 || e != api.OK {
		t.Errorf("%q: %d, %v", text, place, e)
	}
	if place, e := newModel(x).check(); place != 0 || e != api.OK {
		t.Errorf("%q: the model says %d, %v", text, place, e)
	}
	holdC4(t, x)
}

// wantFault wants an error of the node of a kind that begins at the mark of a text.
func wantFault(t *testing.T, text string, kind int, want api.Errno) {
	t.Helper()
	x, wantPlace := marked(t, text, kind)
	if place, e := Check(x); place != wantPlace || e != want {
		t.Errorf("%q: %d, %v, not %d, %v", text, place, e, wantPlace, want)
	}
	if place, e := newModel(x).check(); place != wantPlace || e != want {
		t.Errorf("%q: the model says %d, %v, not %d, %v", text, place, e, wantPlace, want)
	}
}

// wantFaults wants an error of a node of a kind at the mark of each text, a statement in the main of a program.
func wantFaults(t *testing.T, kind int, want api.Errno, texts ...string) {
	t.Helper()
	for _, text := range texts {
		wantFault(t, body(text), kind, want)
	}
}

func wantRoot(t *testing.T, text string) {
	t.Helper()
	x := parsed(t, text)
	if place, e := Check(x); place != x.Root || e != api.ErrMain {
		t.Errorf("%q: %d, %v", text, place, e)
	}
	if place, e := newModel(x).check(); place != x.Root || e != api.ErrMain {
		t.Errorf("%q: the model says %d, %v", text, place, e)
	}
}

func TestC1Examples(t *testing.T) {
	wantFault(t, "proc main() { var x int; @x = true; }", api.Assign, api.ErrType)
	wantFault(t, "proc main() { @y = 1; }", api.Assign, api.ErrName)
	wantRoot(t, "proc f() { }")
	if place, e := Check(parsed(t, "proc main() { var x int; x = true; }")); place != 2 || e != api.ErrType {
		t.Error(place, e)
	}
	if place, e := Check(parsed(t, "proc f() { }")); place != 2 || e != api.ErrMain {
		t.Error(place, e)
	}
	if place, e := Check(parsed(t, "proc main() { y = 1; }")); place != 1 || e != api.ErrName {
		t.Error(place, e)
	}
}

func TestC1WithoutAnError(t *testing.T) {
	for _, text := range []string{
		"proc main() { }",
		"proc main() { var x int; }",
		"proc main() { return; }",
		"proc main() { call main(); }",
		"proc f() { call main(); call g(); } proc main() { call f(); } proc g() { }",
		"var g int; proc f() { g = 1; } proc main() { out lo g; }",
		"proc f(q int) int { return q; } proc main() { var x int; x = in hi; x = call f(x); out hi x; x = call f(1); out lo x; }",
		"proc main() { var x int; x = in hi; while x > 0 { out lo 1; } }",
	} {
		wantOK(t, text)
	}
	for _, statements := range []string{
		"", "x = 1;", "x = y;", "x = g;", "g = x;", "x = -y;", "x = a[0];", "x = p[a[y] + g];", "x = len p;",
		"b = true;", "b = !c;", "k = x < 1 && c || !(a[0] == 1);", "b = c == k;", "b = x != 1;",
		"a = d;", "a = p;", "p = a;", "u = v;", "u = h;", "h = &f;", "u = &f;",
		"a[0] = 1;", "p[x] = a[y];", "x = in lo;", "g = in lo;", "out lo x;", "out x x;", "out nil 1;",
		"if b { } else { x = 1; }", "while k { b = false; }", "throw x;", "throw 1 / 0;",
		"try { throw 1; } catch x { }", "try { } catch g { }", "a = new x;", "p = new 3 * x;", "return;",
	} {
		wantOK(t, body(statements))
	}
}

// TestC1UnknownName is the table's column ErrName, a row at a time, with no other error of the node.
func TestC1UnknownName(t *testing.T) {
	e := api.ErrName
	wantFaults(t, api.Var, e, "x = @nil;", "out lo @nil;", "a[@nil] = 1;", "a[0] = @nil;", "x = call f(@nil);", "x = 1 + -@nil;")
	wantFaults(t, api.Index, e, "x = @nil[0];", "x = a[@nil[0]];")
	wantFaults(t, api.Length, e, "x = @len nil;", "x = -@len nil;")
	wantFaults(t, api.Addr, e, "u = @&nil;", "u = call pick(@&nil);")
	wantFaults(t, api.Assign, e, "@nil = 1;", "if b { @nil = true; }", "while b { @nil = a; }", "try { @nil = u; } catch x { }")
	wantFaults(t, api.Store, e, "@nil[0] = 1;")
	wantFaults(t, api.New, e, "@nil = new 1;")
	wantFaults(t, api.In, e, "@nil = in lo;", "@lo = in lo;")
	wantFaults(t, api.Try, e, "@try { } catch nil { }")
	wantFaults(t, api.Call, e, "@call nil();", "@call nil(1);", "@x = call nil(1);", "@nil = call f(1);", "@nil = call u(1);", "@nil = call nil(1);")
}

// TestC1OtherNames: a procedure is no variable, and a variable no procedure; nor is the variable of another procedure one here.
func TestC1OtherNames(t *testing.T) {
	e := api.ErrName
	wantFaults(t, api.Var, e, "x = @f;", "u = @f;", "out lo @w;")
	wantFaults(t, api.Index, e, "x = @make[0];", "x = @main[0];")
	wantFaults(t, api.Length, e, "x = @len make;")
	wantFaults(t, api.Addr, e, "u = @&x;", "v = @&u;", "v = @&h;")
	wantFaults(t, api.Assign, e, "@f = 1;", "@n = 1;", "@main = 1;")
	wantFaults(t, api.Store, e, "@make[0] = 1;")
	wantFaults(t, api.New, e, "@make = new 1;")
	wantFaults(t, api.In, e, "@five = in lo;")
	wantFaults(t, api.Try, e, "@try { } catch five { }", "@try { } catch n { }")
	wantFaults(t, api.Call, e, "@f = call f(1);", "@n = call f(1);", "@call w(1);")
	wantFault(t, "proc f() { var x int; } proc main() { out lo @x; }", api.Var, e)
	wantFault(t, "proc main() { out lo @x; } proc f(x int) { }", api.Var, e)
}

// TestC1WrongType is the table's column ErrType but for operators, calls and Return, with no other error of the node.
func TestC1WrongType(t *testing.T) {
	e := api.ErrType
	wantFaults(t, api.Index, e, "x = @y[0];", "x = @b[0];", "x = @u[0];", "x = @a[b];", "x = @a[d];", "x = @a[u];", "x = @a[&f];", "x = @a[true];", "x = @x[b];")
	wantFaults(t, api.Length, e, "x = @len y;", "x = @len b;", "x = @len u;")
	wantFaults(t, api.Store, e, "@x[0] = 1;", "@b[0] = 1;", "@u[0] = 1;", "@a[b] = 1;", "@a[d] = 1;", "@a[u] = 1;", "@a[0] = b;", "@a[0] = d;", "@a[0] = u;", "@a[b] = b;", "@x[b] = b;")
	wantFaults(t, api.New, e, "@x = new 1;", "@b = new 1;", "@u = new 1;", "@a = new b;", "@a = new d;", "@a = new u;", "@x = new b;")
	wantFaults(t, api.In, e, "@b = in lo;", "@a = in lo;", "@u = in lo;", "@k = in lo;")
	wantFaults(t, api.Try, e, "@try { } catch b { }", "@try { } catch a { }", "@try { x = 1; } catch h { x = 2; }")
	wantFaults(t, api.Out, e, "@out lo b;", "@out lo a;", "@out lo u;", "@out x true;")
	wantFaults(t, api.Throw, e, "@throw b;", "@throw a;", "@throw u;", "@throw x < 1;")
	wantFaults(t, api.If, e, "@if x { }", "@if a { } else { }", "@if u { x = 1; }")
	wantFaults(t, api.While, e, "@while x { }", "@while a { x = 1; }", "@while u { }")
}

// TestC1Assign: each variable of each type, by each kind of expression.
func TestC1Assign(t *testing.T) {
	values := map[string][]string{
		"i": {"1", "y", "g", "a[0]", "len a", "-y", "y + 1", "y - 1", "y * 1", "y / 1", "y % 1"},
		"b": {"true", "false", "c", "k", "!c", "c && k", "c || k", "c == k", "y != 1", "y < 1", "y <= 1", "y > 1", "y >= 1"},
		"a": {"d", "p"},
		"f": {"v", "h", "&f"},
	}
	for of, variables := range map[string][]string{"i": {"x", "g"}, "b": {"b", "k"}, "a": {"a", "p"}, "f": {"u", "h"}} {
		for by, list := range values {
			for _, value := range list {
				for _, variable := range variables {
					if of == by {
						wantOK(t, body(variable+" = "+value+";"))
					} else {
						wantFaults(t, api.Assign, api.ErrType, "@"+variable+" = "+value+";")
					}
				}
			}
		}
	}
}

// TestC1Operators: each operator with operands of each type; of equal types, those that are neither Int nor Bool can't be compared either.
func TestC1Operators(t *testing.T) {
	operands := map[string]string{"i": "x", "b": "b", "a": "a", "f": "u"}
	takes := map[string][]string{"!": {"b"}, "&&": {"bb"}, "||": {"bb"}, "==": {"ii", "bb"}, "!=": {"ii", "bb"}}
	for _, sign := range strings.Fields("+ - * / % < <= > >=") {
		takes[sign] = []string{"ii"}
	}
	taker := func(sign string) string { // the variable that takes what an operator makes
		if strings.Contains("+-*/%", sign) {
			return "y = "
		}
		return "c = "
	}
	if len(takes) != 14 {
		t.Fatal(takes)
	}
	right := 0
	for sign, list := range takes {
		for left, first := range operands {
			if sign == "!" || sign == "-" {
				if sign == "-" && left == "i" || sign == "!" && left == "b" {
					right++
					wantOK(t, body(taker(sign)+sign+first+";"))
				} else {
					wantFaults(t, api.Unary, api.ErrType, taker(sign)+"@"+sign+first+";")
				}
			}
			for other, second := range operands {
				switch {
				case sign == "!":
				case slices.Contains(list, left+other):
					right++
					wantOK(t, body(taker(sign)+first+sign+second+";"))
				default:
					wantFaults(t, api.Binary, api.ErrType, taker(sign)+first+"@"+sign+second+";")
				}
			}
		}
	}
	if right != 2+9+2+4 { // two signs, nine operators of Ints, two of Bools, two of either
		t.Error(right)
	}
	wantFaults(t, api.Binary, api.ErrType, "b = a @== a;", "b = a @!= p;", "b = u @== u;", "b = &f @!= &f;", "b = u @== h;", "b = a @== u;", "b = x @== c;", "b = 1 @!= true;")
}

// TestC1OperatorsInOneAnother: an operator is wrong where its own operands are, and takes what the one below it makes.
func TestC1OperatorsInOneAnother(t *testing.T) {
	for _, s := range []string{"b = x + 1 < y * 2;", "b = (x < 1) == (y < 2);", "x = -(x - -1);", "b = !(!b && x == 1 || b != c);", "b = !(x == 1);", "x = a[-x % 2] + len a;"} {
		wantOK(t, body(s))
	}
	wantFaults(t, api.Binary, api.ErrType, "b = (x < 1) @< 2;", "x = 1 @+ (x < 1);", "x = (b && c) @+ 1;", "b = x @&& (x < 1);", "b = (x @+ b) == 1;", "b = (x < 1) @== 1;", "b = !(b @|| 1) && 1;")
	wantFaults(t, api.Unary, api.ErrType, "x = @-(x < 1);", "b = @!(x + 1);", "b = @!-x;", "x = @-!b;", "x = 1 + @-b;")
}

// TestC1FirstColumn: of two columns that a node breaks, the first one is told.
func TestC1FirstColumn(t *testing.T) {
	e := api.ErrName
	wantFaults(t, api.Index, e, "x = @nil[b];", "x = @nil[a];", "x = @nil[&f];")
	wantFaults(t, api.Store, e, "@nil[b] = 1;", "@nil[0] = b;", "@nil[a] = u;")
	wantFaults(t, api.New, e, "@nil = new b;", "@nil = new a;")
	wantFaults(t, api.Assign, e, "@nil = b;", "@nil = a;")
	wantFaults(t, api.Call, e,
		"@nil = call f();", "@nil = call f(b);", "@nil = call f(1, 2);", "@nil = call pair(a, b);", "@nil = call pair();", "@nil = call x(1);", "@nil = call u();", "@nil = call u(b);",
		"@b = call nil(1);", "@x = call nil(a, u);")
}

// TestC1FirstNode: of two nodes with errors the one with the lower index is told, whatever their errors are.
func TestC1FirstNode(t *testing.T) {
	ahead := []struct {
		text string
		kind int
		want api.Errno
	}{
		{"@nil = 1;", api.Assign, api.ErrName},
		{"x = @nil;", api.Var, api.ErrName},
		{"@x = b;", api.Assign, api.ErrType},
		{"@return 1;", api.Return, api.ErrType},
		{"x = x @+ b;", api.Binary, api.ErrType},
		{"@call nil();", api.Call, api.ErrName},
	}
	for _, first := range ahead {
		for _, second := range ahead {
			wantFaults(t, first.kind, first.want, first.text+" "+strings.ReplaceAll(second.text, "@", ""))
		}
		// Faults of other kinds behind it: a name that is taken, and a main that is none.
		plain := strings.ReplaceAll(first.text, "@", "")
		wantFault(t, body(first.text)+" proc f() { }", first.kind, first.want)
		wantFault(t, strings.Replace(body(first.text), "proc main()", "proc main(z int)", 1), first.kind, first.want)
		// A name that is taken ahead of it.
		wantFault(t, strings.Replace(body(plain), "var h fun;", "var h fun; @var h int;", 1), api.Global, api.ErrThere)
		wantFault(t, strings.Replace(body(plain), "var v fun;", "var v fun; @var v fun;", 1), api.Local, api.ErrThere)
	}
	// A node stands behind those below it, and a Proc behind its whole body.
	wantFaults(t, api.Var, api.ErrName, "nil = @nil;", "nil[@nil] = b;", "nil = call nil(@nil);", "if @nil { nil = 1; }", "x = nil[@nil];", "x = b + @nil;")
	wantFaults(t, api.Unary, api.ErrType, "b = @-c;", "x = 1 + @-b;", "out lo @!x;", "nil = @!x;")
	wantFaults(t, api.Assign, api.ErrName, "try { @nil = 1; } catch nil { }", "if x { @nil = 1; }", "while x { x = 1; @nil = 1; }")
	wantFault(t, "proc f() { } proc f() { @x = 1; } proc main() { }", api.Assign, api.ErrName)
	wantFault(t, "var f int; proc f(a int) { @call nil(); } proc main() { }", api.Call, api.ErrName)
	wantFault(t, "proc f(x int, @x int) { var x int; y = 1; } proc f() { }", api.Param, api.ErrThere)
}

// TestC1Taken is the table's column ErrThere.
func TestC1Taken(t *testing.T) {
	e := api.ErrThere
	for _, types := range [][2]string{{"int", "int"}, {"int", "bool"}, {"fun", "arr"}} {
		one, two := types[0], types[1]
		wantFault(t, "var x "+one+"; @var x "+two+"; proc main() { }", api.Global, e)
		wantFault(t, "var x "+one+"; var y int; @var x "+two+"; var x int; var y int; proc main() { }", api.Global, e)
		wantFault(t, "proc main() { } proc f(x "+one+", @x "+two+") { }", api.Param, e)
		wantFault(t, "proc main() { } proc f(x "+one+", y int, @x "+two+", y int) { }", api.Param, e)
		wantFault(t, "proc main() { } proc f(x "+one+") { @var x "+two+"; }", api.Local, e)
		wantFault(t, "proc main() { } proc f(y int, x "+one+") { var z int; @var x "+two+"; var y int; }", api.Local, e)
		wantFault(t, "proc main() { var x "+one+"; @var x "+two+"; }", api.Local, e)
		wantFault(t, "proc main() { var x "+one+"; var y int; @var x "+two+"; var x int; }", api.Local, e)
		wantFault(t, "var f "+one+"; @proc f() { } proc main() { }", api.Proc, e)
		wantFault(t, "var f "+one+"; proc main() { } @proc f(x "+two+") { }", api.Proc, e)
		wantFault(t, "proc f() "+one+" { } @proc f() "+two+" { } proc main() { }", api.Proc, e)
	}
	wantFault(t, "proc f() { } proc main() { } proc g() { } @proc f() { } proc g() { }", api.Proc, e)
	wantFault(t, "proc main() { } @proc main() { }", api.Proc, e)
	wantFault(t, "proc main() int { return 1; } @proc main() { }", api.Proc, e)
	wantFault(t, "var main int; @proc main() { }", api.Proc, e)
	wantFault(t, "var main fun; proc f() { call main(1); } @proc main() { }", api.Proc, e)
}

// TestC1NotTaken: two owners may have the same names, and an owner those of Globals and of procedures, its own too; Channels have names of their own.
func TestC1NotTaken(t *testing.T) {
	for _, text := range []string{
		"proc f(x int) { } proc g(x bool) { } proc main() { }",
		"proc f(x int) { } proc g() { var x bool; } proc main() { var x arr; }",
		"var x int; proc f(x bool) { } proc main() { var x arr; }",
		"proc f(f int) { } proc g() { var g int; var f int; } proc main() { var main int; }",
		"var a int; var b int; proc f(c int, d int) { var e int; var g int; } proc main() { }",
		"var x int; proc main() { x = in x; out main x; }",
		"var x int; var X int; proc f() { } proc F() { } proc main() { var y int; var Y int; }",
	} {
		wantOK(t, text)
	}
}

// TestC1Hiding: a Param or a Local hides a Global in its own procedure, and there alone.
func TestC1Hiding(t *testing.T) {
	wantOK(t, "var x int; proc f() { var x bool; x = true; } proc g(x arr) { x = new 1; } proc main() { x = 1; }")
	wantFault(t, "var x int; proc main() { var x bool; @x = 1; }", api.Assign, api.ErrType)
	wantFault(t, "var x int; proc f(x bool) { @x = 1; } proc main() { }", api.Assign, api.ErrType)
	wantFault(t, "var x int; proc f(x bool) { x = true; } proc main() { @x = true; }", api.Assign, api.ErrType)
	wantFault(t, "var x int; proc main() { @x = true; } proc f() { var x bool; }", api.Assign, api.ErrType)
	wantFault(t, "var x arr; proc main() { var x int; out lo @x[0]; }", api.Index, api.ErrType)
	wantFault(t, "var x arr; proc main() { var x int; out lo @len x; }", api.Length, api.ErrType)
	wantFault(t, "var x fun; proc main() { var x int; @call x(1); }", api.Call, api.ErrType)
	wantOK(t, "var x int; proc main() { var x fun; call x(1); }")
}

// TestC1MostNodes: a tree that is as large, and one that is as deep, as a valid one may be.
func TestC1MostNodes(t *testing.T) {
	assign := over(api.Assign, "x", leaf(api.Const, "", 1))
	wide := func(last api.Tree) api.Tree {
		list := append(slices.Repeat([]api.Tree{assign}, 1997), last)
		return over(api.Program, "", leaf(api.Global, "x", api.Int), over(api.Proc, "main", over(api.Block, "", list...)))
	}
	for last, want := range map[string]api.Errno{"x": api.OK, "y": api.ErrName} {
		x := wide(over(api.Assign, last, leaf(api.Const, "", 1)))
		if len(x.Nodes) != 4000 {
			t.Fatal(len(x.Nodes))
		}
		wantPlace := 0
		if want != api.OK {
			wantPlace = 3996
		}
		if place, e := Check(x); place != wantPlace || e != want {
			t.Error(place, e)
		}
	}
	if place, e := Check(wide(over(api.Assign, "x", over(api.Unary, "-", leaf(api.Const, "", 1))))); place != 0 || e != api.ErrArg {
		t.Error(place, e)
	}
}

func TestC1Deep(t *testing.T) {
	deep := func(signs int, below string) api.Tree {
		x, _, e := parse.Expr(strings.Repeat("-", signs) + below)
		if e != api.OK {
			t.Fatal(e)
		}
		return over(api.Program, "", over(api.Proc, "main", over(api.Block, "", over(api.Throw, "", x))))
	}
	x := deep(35, "1")
	if place, e := Check(x); tree.Depth(x) != 40 || place != 0 || e != api.OK {
		t.Error(tree.Depth(x), place, e)
	}
	if place, e := Check(deep(35, "true")); place != 1 || e != api.ErrType {
		t.Error(place, e)
	}
	if place, e := Check(deep(36, "1")); place != 0 || e != api.ErrArg {
		t.Error(place, e)
	}
}
