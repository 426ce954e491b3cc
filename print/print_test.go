package print

import (
	"math"
	"strconv"
	"strings"
	"testing"

	"runnel/api"
	"runnel/parse"
	"runnel/tree"
)

func wantExpr(t *testing.T, x api.Tree, want string) {
	t.Helper()
	if got := Expr(x); got != want {
		t.Errorf("%.200q, not %.200q", got, want)
	}
}

// wantLine asks for the line of a statement that stands in a program, and for the program's text: the line, a semicolon or what else comes behind it.
func wantLine(t *testing.T, statement api.Tree, line, behind string) {
	t.Helper()
	x := programOf(statement)
	if got := Line(x, statement.Root); got != line {
		t.Errorf("the line is %q, not %q", got, line)
	}
	wantProgram(t, x, "proc f() {\n  "+line+behind+"\n}\n")
}

func wantProgram(t *testing.T, x api.Tree, want string) {
	t.Helper()
	if got := Program(x); got != want {
		t.Errorf("%.2000s\nnot\n%.2000s", got, want)
	}
}

// holdProgram holds Program, all Lines, and what parse makes of the text against the model and against R2.
func holdProgram(t *testing.T, x api.Tree) {
	t.Helper()
	text := Program(x)
	if want := modelProgram(x); text != want {
		t.Fatalf("%.2000s\nnot\n%.2000s", text, want)
	}
	for place, n := range x.Nodes {
		want := ""
		if n.Kind >= api.Assign && n.Kind <= api.New {
			want = modelLine(x, place)
		}
		if got := Line(x, place); got != want {
			t.Fatalf("the line at %d is %q, not %q", place, got, want)
		}
	}
	holdParsed(t, x, text, parse.Program, Program)
}

// holdExpr is the same of an expression.
func holdExpr(t *testing.T, x api.Tree) {
	t.Helper()
	text := Expr(x)
	if want := modelExpr(x); text != want || text == "" {
		t.Fatalf("%.2000q, not %.2000q", text, want)
	}
	holdParsed(t, x, text, parse.Expr, Expr)
}

// holdParsed is R2: the text is read as the same tree, and that is printed as the same text.
func holdParsed(t *testing.T, x api.Tree, text string, read func(string) (api.Tree, int, api.Errno), write func(api.Tree) string) {
	t.Helper()
	y, at, e := read(text)
	if len(text) > api.MaxText {
		if e != api.ErrLong {
			t.Fatal(len(text), e)
		}
		return
	}
	if e != api.OK {
		t.Fatalf("%.2000s\n%d %v", text, at, e)
	}
	if !tree.Same(x, y) || write(y) != text {
		t.Fatalf("%.2000s\nis another tree or text: %.2000s", text, write(y))
	}
}

func TestExamples(t *testing.T) {
	x, _, _ := parse.Expr("(1+2)*-x")
	wantExpr(t, x, "(1 + 2) * -x")
	x, _, _ = parse.Program("proc f(){if b{}else{x=1;}}")
	wantProgram(t, x, "proc f() {\n  if b {\n  } else {\n    x = 1;\n  }\n}\n")
}

func TestExamplesOfTheWhole(t *testing.T) {
	x, _, _ := parse.Program("proc f(q int) int { return q; } proc main() { var x int; x = in hi; x = call f(x); out hi x; x = call f(1); out lo x; }")
	wantProgram(t, x, "proc f(q int) int {\n  return q;\n}\nproc main() {\n  var x int;\n  x = in hi;\n  x = call f(x);\n  out hi x;\n  x = call f(1);\n  out lo x;\n}\n")
	x, _, _ = parse.Program("proc main() { var x int; x = in hi; while x > 0 { out lo 1; } }")
	wantProgram(t, x, "proc main() {\n  var x int;\n  x = in hi;\n  while x > 0 {\n    out lo 1;\n  }\n}\n")
}

func TestR1Leaves(t *testing.T) {
	for _, n := range []int{0, 1, 9, 10, 100, 1 << 31, 1 << 53, math.MaxInt - 1} {
		wantExpr(t, number(n), strconv.Itoa(n))
	}
	wantExpr(t, number(math.MaxInt), "9223372036854775807")
	wantExpr(t, leaf(api.Truth, "", 0), "false")
	wantExpr(t, leaf(api.Truth, "", 1), "true")
	wantExpr(t, name("x"), "x")
	wantExpr(t, name("an_array_of_20_bytes"), "an_array_of_20_bytes")
	wantExpr(t, leaf(api.Length, "a", 0), "len a")
	wantExpr(t, leaf(api.Addr, "main", 0), "&main")
}

// children are expressions of each kind, and their texts as they stand by themselves.
func children() (trees []api.Tree, texts []string) {
	add := func(x api.Tree, text string) { trees, texts = append(trees, x), append(texts, text) }
	add(number(12), "12")
	add(leaf(api.Truth, "", 1), "true")
	add(name("v"), "v")
	add(over(api.Index, "a", number(0)), "a[0]")
	add(leaf(api.Length, "a", 0), "len a")
	add(leaf(api.Addr, "p", 0), "&p")
	add(over(api.Unary, "-", name("u")), "-u")
	add(over(api.Unary, "!", name("u")), "!u")
	add(over(api.Binary, "+", name("l"), name("r")), "l + r")
	return trees, texts
}

// TestR1EachKindOverEachKind: a Binary has parentheses below a Unary and a Binary, and nowhere else; no other kind has any.
func TestR1EachKindOverEachKind(t *testing.T) {
	trees, texts := children()
	for i, x := range trees {
		plain, operand := texts[i], texts[i]
		if x.Nodes[x.Root].Kind == api.Binary {
			operand = "(l + r)"
		}
		wantExpr(t, x, plain)
		wantExpr(t, over(api.Index, "b", x), "b["+plain+"]")
		wantExpr(t, over(api.Unary, "-", x), "-"+operand)
		wantExpr(t, over(api.Unary, "!", x), "!"+operand)
		wantExpr(t, over(api.Binary, "*", x, name("z")), operand+" * z")
		wantExpr(t, over(api.Binary, "-", name("z"), x), "z - "+operand)
		for j, y := range trees {
			other := texts[j]
			if y.Nodes[y.Root].Kind == api.Binary {
				other = "(" + other + ")"
			}
			wantExpr(t, over(api.Binary, "&&", x, y), operand+" && "+other)
			holdExpr(t, over(api.Index, "b", over(api.Binary, "<", x, y)))
		}
		holdExpr(t, x)
	}
}

// TestR1Operators: each over each, as the first child, the second, and both; whichever binds closer in the grammar.
func TestR1Operators(t *testing.T) {
	if len(signs) != 13 {
		t.Fatal(signs)
	}
	for _, s := range signs {
		wantExpr(t, over(api.Binary, s, name("a"), name("b")), "a "+s+" b")
		for _, below := range signs {
			inner := over(api.Binary, below, name("a"), name("b"))
			for _, c := range []struct {
				x    api.Tree
				want string
			}{
				{over(api.Binary, s, inner, name("c")), "(a " + below + " b) " + s + " c"},
				{over(api.Binary, s, name("c"), inner), "c " + s + " (a " + below + " b)"},
				{over(api.Binary, s, inner, inner), "(a " + below + " b) " + s + " (a " + below + " b)"},
			} {
				wantExpr(t, c.x, c.want)
				holdExpr(t, c.x)
			}
		}
	}
}

func TestR1Signs(t *testing.T) {
	sign := func(s string, x api.Tree) api.Tree { return over(api.Unary, s, x) }
	sum := over(api.Binary, "+", number(1), number(2))
	for _, c := range []struct {
		x    api.Tree
		want string
	}{
		{sign("-", number(0)), "-0"},
		{sign("-", number(math.MaxInt)), "-9223372036854775807"},
		{sign("-", sign("-", name("x"))), "--x"},
		{sign("-", sign("!", name("x"))), "-!x"},
		{sign("!", sign("-", name("x"))), "!-x"},
		{sign("!", sign("!", sign("!", name("x")))), "!!!x"},
		{sign("-", sum), "-(1 + 2)"},
		{sign("-", sign("-", sum)), "--(1 + 2)"},
		{over(api.Binary, "-", sign("-", sum), sign("-", sum)), "-(1 + 2) - -(1 + 2)"},
		{sign("!", over(api.Binary, "==", sign("!", name("a")), sign("!", name("b")))), "!(!a == !b)"},
		{over(api.Binary, "&&", leaf(api.Addr, "f", 0), leaf(api.Addr, "g", 0)), "&f && &g"},
		{sign("!", leaf(api.Addr, "f", 0)), "!&f"},
		{sign("-", leaf(api.Length, "a", 0)), "-len a"},
	} {
		wantExpr(t, c.x, c.want)
		holdExpr(t, c.x)
	}
}

// TestR1Index: what stands in brackets needs no parentheses, however it is made.
func TestR1Index(t *testing.T) {
	at := over(api.Index, "a", over(api.Binary, "+", over(api.Index, "b", over(api.Binary, "*", name("i"), number(2))), number(1)))
	wantExpr(t, at, "a[b[i * 2] + 1]")
	wantExpr(t, over(api.Binary, "%", at, over(api.Unary, "-", at)), "a[b[i * 2] + 1] % -a[b[i * 2] + 1]")
	wantExpr(t, over(api.Index, "a", over(api.Index, "a", over(api.Index, "a", number(0)))), "a[a[a[0]]]")
}

func TestR1Statements(t *testing.T) {
	sum := over(api.Binary, "+", name("y"), number(1))
	channel := leaf(api.Chan, "lo", 0)
	for _, c := range []struct {
		x    api.Tree
		want string
	}{
		{over(api.Assign, "x", number(1)), "x = 1"},
		{over(api.Assign, "x", sum), "x = y + 1"},
		{over(api.Assign, "p", leaf(api.Addr, "f", 0)), "p = &f"},
		{over(api.Store, "a", number(0), number(1)), "a[0] = 1"},
		{over(api.Store, "a", sum, over(api.Binary, "*", sum, sum)), "a[y + 1] = (y + 1) * (y + 1)"},
		{over(api.In, "x", channel), "x = in lo"},
		{over(api.Out, "", channel, name("x")), "out lo x"},
		{over(api.Out, "", channel, sum), "out lo y + 1"},
		{over(api.Out, "", channel, over(api.Unary, "-", sum)), "out lo -(y + 1)"},
		{over(api.Throw, "", number(7)), "throw 7"},
		{over(api.Throw, "", sum), "throw y + 1"},
		{over(api.New, "a", number(3)), "a = new 3"},
		{over(api.New, "a", sum), "a = new y + 1"},
		{over(api.Return, ""), "return"},
		{over(api.Return, "", name("x")), "return x"},
		{over(api.Return, "", sum), "return y + 1"},
		{over(api.Return, "", leaf(api.Truth, "", 0)), "return false"},
	} {
		wantLine(t, c.x, c.want, ";")
		holdProgram(t, programOf(c.x, c.x, c.x))
	}
}

func TestR1Calls(t *testing.T) {
	call := func(variable string, arguments ...api.Tree) api.Tree {
		return over(api.Call, variable, append([]api.Tree{leaf(api.Ref, "g", 0)}, arguments...)...)
	}
	sum := over(api.Binary, "+", name("y"), number(1))
	for _, c := range []struct {
		x    api.Tree
		want string
	}{
		{call(""), "call g()"},
		{call("x"), "x = call g()"},
		{call("", number(1)), "call g(1)"},
		{call("x", number(1)), "x = call g(1)"},
		{call("", sum), "call g(y + 1)"},
		{call("", name("a"), number(1)), "call g(a, 1)"},
		{call("x", sum, over(api.Unary, "-", sum), leaf(api.Addr, "h", 0), leaf(api.Length, "a", 0)), "x = call g(y + 1, -(y + 1), &h, len a)"},
		{call("g", name("g"), name("g"), name("g")), "g = call g(g, g, g)"},
	} {
		wantLine(t, c.x, c.want, ";")
		holdProgram(t, programOf(c.x, c.x, c.x))
	}
}

func TestR1Blocks(t *testing.T) {
	one, two := over(api.Assign, "x", number(1)), over(api.Assign, "x", number(2))
	less := over(api.Binary, "<", name("x"), number(3))
	wantLine(t, over(api.If, "", name("b"), block(), block()), "if b", " {\n  }")
	wantLine(t, over(api.If, "", less, block(one), block()), "if x < 3", " {\n    x = 1;\n  }")
	wantLine(t, over(api.If, "", less, block(), block(two)), "if x < 3", " {\n  } else {\n    x = 2;\n  }")
	wantLine(t, over(api.If, "", less, block(one, two), block(two, one)), "if x < 3", " {\n    x = 1;\n    x = 2;\n  } else {\n    x = 2;\n    x = 1;\n  }")
	wantLine(t, over(api.While, "", name("b"), block()), "while b", " {\n  }")
	wantLine(t, over(api.While, "", over(api.Unary, "!", less), block(one, two)), "while !(x < 3)", " {\n    x = 1;\n    x = 2;\n  }")
	wantLine(t, over(api.Try, "e", block(), block()), "try", " {\n  } catch e {\n  }")
	wantLine(t, over(api.Try, "e", block(one), block()), "try", " {\n    x = 1;\n  } catch e {\n  }")
	wantLine(t, over(api.Try, "e", block(), block(two)), "try", " {\n  } catch e {\n    x = 2;\n  }")
	wantLine(t, over(api.Try, "e", block(one, one), block(two, two)), "try", " {\n    x = 1;\n    x = 1;\n  } catch e {\n    x = 2;\n    x = 2;\n  }")
}

func TestR1BlocksWithinBlocks(t *testing.T) {
	one := over(api.Assign, "x", number(1))
	loop := over(api.While, "", name("b"), block(one))
	attempt := over(api.Try, "e", block(loop), block(one, loop))
	choice := over(api.If, "", name("c"), block(attempt, one), block(over(api.If, "", name("d"), block(), block(loop))))
	x := programOf(choice, over(api.Return, ""))
	wantProgram(t, x, `proc f() {
  if c {
    try {
      while b {
        x = 1;
      }
    } catch e {
      x = 1;
      while b {
        x = 1;
      }
    }
    x = 1;
  } else {
    if d {
    } else {
      while b {
        x = 1;
      }
    }
  }
  return;
}
`)
	holdProgram(t, x)
	// An else belongs to the if whose Block it stands behind.
	inner := over(api.If, "", name("b"), block(), block())
	wantProgram(t, programOf(over(api.If, "", name("a"), block(inner), block(one))), "proc f() {\n  if a {\n    if b {\n    }\n  } else {\n    x = 1;\n  }\n}\n")
	inner = over(api.If, "", name("b"), block(), block(one))
	wantProgram(t, programOf(over(api.If, "", name("a"), block(inner), block())), "proc f() {\n  if a {\n    if b {\n    } else {\n      x = 1;\n    }\n  }\n}\n")
}

// TestR1SecondBlock: a second Block without statements isn't printed, one whose statements print little is.
func TestR1SecondBlock(t *testing.T) {
	for _, s := range []api.Tree{over(api.Return, ""), over(api.While, "", name("b"), block()), over(api.If, "", name("b"), block(), block()), over(api.Try, "e", block(), block())} {
		text := Program(programOf(over(api.If, "", name("a"), block(), block(s))))
		if strings.Count(text, "  } else {\n") != 1 {
			t.Error(text)
		}
		text = Program(programOf(over(api.If, "", name("a"), block(s), block())))
		if strings.Contains(text, "else") {
			t.Error(text)
		}
	}
}

func TestR1Procedures(t *testing.T) {
	param := func(s string, n int) api.Tree { return leaf(api.Param, s, n) }
	local := func(s string, n int) api.Tree { return leaf(api.Local, s, n) }
	proc := func(n int, kids ...api.Tree) api.Tree {
		return over(api.Program, "", tree.Over(api.Node{Kind: api.Proc, Text: "p", N: n}, kids))
	}
	for _, c := range []struct {
		x    api.Tree
		want string
	}{
		{proc(0, block()), "proc p() {\n}\n"},
		{proc(api.Int, block()), "proc p() int {\n}\n"},
		{proc(api.Bool, block()), "proc p() bool {\n}\n"},
		{proc(api.Arr, block()), "proc p() arr {\n}\n"},
		{proc(api.Fun, block()), "proc p() fun {\n}\n"},
		{proc(0, param("x", api.Int), block()), "proc p(x int) {\n}\n"},
		{proc(0, param("x", api.Int), param("y", api.Bool), param("z", api.Arr), param("f", api.Fun), block()), "proc p(x int, y bool, z arr, f fun) {\n}\n"},
		{proc(0, local("x", api.Int), block()), "proc p() {\n  var x int;\n}\n"},
		{proc(0, local("x", api.Int), local("y", api.Bool), local("z", api.Arr), local("f", api.Fun), block()), "proc p() {\n  var x int;\n  var y bool;\n  var z arr;\n  var f fun;\n}\n"},
		{proc(api.Bool, param("x", api.Fun), local("y", api.Arr), block(over(api.Return, "", name("x")))), "proc p(x fun) bool {\n  var y arr;\n  return x;\n}\n"},
		{proc(0, local("y", api.Arr), block(over(api.While, "", name("y"), block(over(api.Return, ""))))), "proc p() {\n  var y arr;\n  while y {\n    return;\n  }\n}\n"},
	} {
		wantProgram(t, c.x, c.want)
		holdProgram(t, c.x)
	}
}

func TestR1Programs(t *testing.T) {
	global := func(s string, n int) api.Tree { return leaf(api.Global, s, n) }
	one := over(api.Assign, "x", number(1))
	for _, c := range []struct {
		x    api.Tree
		want string
	}{
		{over(api.Program, ""), ""},
		{over(api.Program, "", global("g", api.Int)), "var g int;\n"},
		{over(api.Program, "", global("g", api.Int), global("h", api.Bool), global("i", api.Arr), global("j", api.Fun)), "var g int;\nvar h bool;\nvar i arr;\nvar j fun;\n"},
		{over(api.Program, "", procOf()), "proc f() {\n}\n"},
		{over(api.Program, "", procOf(one), procOf(), procOf(one, one)), "proc f() {\n  x = 1;\n}\nproc f() {\n}\nproc f() {\n  x = 1;\n  x = 1;\n}\n"},
		{over(api.Program, "", global("g", api.Int), global("g", api.Fun), procOf(), procOf(one)), "var g int;\nvar g fun;\nproc f() {\n}\nproc f() {\n  x = 1;\n}\n"},
	} {
		wantProgram(t, c.x, c.want)
		holdProgram(t, c.x)
	}
}

// TestR1OffsetsDoNotMatter: At of a node is not to be seen in a text.
func TestR1OffsetsDoNotMatter(t *testing.T) {
	g := newGrow(11)
	for range 50 {
		x, e := g.program(8), g.expr(8)
		y, f := copied(x), copied(e)
		for _, nodes := range [][]api.Node{y.Nodes, f.Nodes} {
			for i := range nodes {
				nodes[i].At = []int{-1, math.MinInt, math.MaxInt, 20001, g.Int()}[g.Intn(5)]
			}
		}
		if Program(x) != Program(y) || Expr(e) != Expr(f) || Line(x, len(x.Nodes)/2) != Line(y, len(x.Nodes)/2) {
			t.Fatal(Program(y), Expr(f))
		}
	}
}
