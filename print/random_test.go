package print

import (
	"math"
	"slices"
	"strings"
	"testing"

	"runnel/api"
	"runnel/parse"
	"runnel/tree"
)

func TestR2RandomPrograms(t *testing.T) {
	g, kinds := newGrow(1), map[int]int{}
	for i := range 600 {
		x := g.program(4 + i%9)
		if !tree.Right(x) {
			t.Fatal("the test makes a program that is not valid")
		}
		holdProgram(t, x)
		for _, n := range x.Nodes {
			kinds[n.Kind]++
		}
	}
	for kind := api.Program; kind <= api.Binary; kind++ {
		if kinds[kind] < 100 {
			t.Error("too few nodes of a kind", kind, kinds[kind])
		}
	}
}

func TestR2RandomExpressions(t *testing.T) {
	g, kinds := newGrow(2), map[int]int{}
	for i := range 3000 {
		x := g.expr(1 + i%8)
		holdExpr(t, x)
		for _, n := range x.Nodes {
			kinds[n.Kind]++
		}
	}
	for kind := api.Const; kind <= api.Binary; kind++ {
		if kinds[kind] < 500 {
			t.Error("too few nodes of a kind", kind, kinds[kind])
		}
	}
}

// TestR2Deep: the text of a tree of depth 40 has no more open at once than parse takes.
func TestR2Deep(t *testing.T) {
	g := newGrow(3)
	for i := range 400 {
		depth := 40 - i%4
		x := g.deepExpr(depth)
		if tree.Depth(x) != depth {
			t.Fatal(tree.Depth(x), depth)
		}
		holdExpr(t, x)
		y := over(api.Program, "", g.proc(g.deepBlock(depth-2)))
		if tree.Depth(y) != depth {
			t.Fatal(tree.Depth(y), depth)
		}
		holdProgram(t, y)
	}
	for range 100 {
		refused := g.deepExpr(41)
		if got := Expr(refused); got != "" {
			t.Fatalf("%.200q", got)
		}
		refuseAll(t, "a program of depth 41", over(api.Program, "", g.proc(g.deepBlock(39))))
	}
}

// TestR2MostOpen: all that opens a construct, in one another as far as the depth allows.
func TestR2MostOpen(t *testing.T) {
	for _, step := range steps() {
		x := stacked(36, step)
		for _, s := range []api.Tree{
			over(api.Store, "a", x, x),
			over(api.Call, "", leaf(api.Ref, "f", 0), x, x),
			over(api.Return, "", x),
			over(api.If, "", x, block(), block(over(api.Return, ""))),
		} {
			holdProgram(t, programOf(s))
		}
	}
	both := func(below api.Tree) api.Tree {
		if below.Nodes[below.Root].Kind == api.Binary {
			return over(api.Unary, "!", below)
		}
		return over(api.Binary, "/", number(2), below)
	}
	for _, step := range steps() {
		holdExpr(t, stacked(40, both))
		holdExpr(t, step(stacked(39, both)))
		holdExpr(t, step(step(stacked(38, both))))
	}
}

// TestR2FromTexts: a text in any layout is printed in the one that the chapter tells, and that is the last word.
func TestR2FromTexts(t *testing.T) {
	for s, want := range map[string]string{
		"":              "",
		" # no\n":       "",
		"var\n g int ;": "var g int;\n",
		"proc f(){}":    "proc f() {\n}\n",
		"var g int;var h fun;proc f(a arr,x int)bool{var b bool;a[(x)]=((1)+g);return(b);}proc g(){}": "var g int;\nvar h fun;\nproc f(a arr, x int) bool {\n  var b bool;\n  a[x] = 1 + g;\n  return b;\n}\nproc g() {\n}\n",
		"proc f() { if a {} else {} if a { if b {} else { return ; } } }":                             "proc f() {\n  if a {\n  }\n  if a {\n    if b {\n    } else {\n      return;\n    }\n  }\n}\n",
		"proc f() { x = 1 + 2 * 3 - 4 < 5 && !(a || b) == c; }":                                       "proc f() {\n  x = (((1 + (2 * 3)) - 4) < 5) && (!(a || b) == c);\n}\n",
		"proc f() { try { call f(1,(2+3),- 4); } catch e { x=call f ( ); } # } \n throw-(1); }":       "proc f() {\n  try {\n    call f(1, 2 + 3, -4);\n  } catch e {\n    x = call f();\n  }\n  throw -1;\n}\n",
		"proc f() { while(a<b){ a=in lo;out hi(a)+1;b=new(3)*len q;p=& f; } }":                        "proc f() {\n  while a < b {\n    a = in lo;\n    out hi a + 1;\n    b = new 3 * len q;\n    p = &f;\n  }\n}\n",
	} {
		x, at, e := parse.Program(s)
		if e != api.OK {
			t.Errorf("%q: %d, %v", s, at, e)
			continue
		}
		wantProgram(t, x, want)
		holdProgram(t, x)
	}
}

// TestR2LongNames: names and numbers that are as long as they may be.
func TestR2LongNames(t *testing.T) {
	long := strings.Repeat("Z", 20)
	x := tree.Over(api.Node{Kind: api.Proc, Text: long, N: api.Fun}, []api.Tree{leaf(api.Param, long, api.Arr), leaf(api.Local, long, api.Bool), block(
		over(api.Call, long, leaf(api.Ref, long, 0), name(long), number(math.MaxInt)), over(api.In, long, leaf(api.Chan, long, 0)))})
	x = over(api.Program, "", leaf(api.Global, long, api.Int), x)
	wantProgram(t, x, strings.ReplaceAll("var L int;\nproc L(L arr) fun {\n  var L bool;\n  L = call L(L, 9223372036854775807);\n  L = in L;\n}\n", "L", long))
	holdProgram(t, x)
}

// TestR2TextsOfAboutTheLimit: a text of 20000 bytes is read again, one of 20001 is printed but not read.
func TestR2TextsOfAboutTheLimit(t *testing.T) {
	statement := func(size int) api.Tree { return over(api.Assign, strings.Repeat("x", size), number(1)) } // size + 8 bytes
	list := slices.Repeat([]api.Tree{statement(12)}, 999)                                                  // 20 bytes each, with 13 around them
	for size, length := range map[int]int{6: 20007, 20: 20021} {
		x := programOf(append(slices.Clone(list), statement(size))...)
		if got := Program(x); len(got) != length {
			t.Error(len(got), length)
		}
		holdLong(t, x)
	}
	for size := 1; size <= 20; size++ {
		x := programOf(append(slices.Clone(list[1:]), statement(size), statement(5))...) // 19960 + 13 + size + 8 + 13 bytes
		if got := Program(x); len(got) != 19994+size {
			t.Error(len(got), size)
		}
		holdLong(t, x)
	}
}

// holdLong holds a program's text against the model and against R2, without all of its lines.
func holdLong(t *testing.T, x api.Tree) {
	t.Helper()
	text := Program(x)
	if want := modelProgram(x); text != want || text == "" {
		t.Fatalf("%d bytes, not %d: %.200q", len(text), len(want), text)
	}
	holdParsed(t, x, text, parse.Program, Program)
}

// TestR1LongTexts: what is printed may be much longer than what is read.
func TestR1LongTexts(t *testing.T) {
	long := strings.Repeat("w", 20)
	body := block(slices.Repeat([]api.Tree{over(api.Assign, long, name(long))}, 1900)...)
	for range 17 {
		body = block(over(api.While, "", name(long), body))
	}
	x := over(api.Program, "", over(api.Proc, "f", body))
	text := Program(x)
	if len(text) < 150000 || text != modelProgram(x) {
		t.Errorf("%d bytes: %.200q", len(text), text)
	}
	if line := strings.Repeat(" ", 36) + long + " = " + long + ";\n"; strings.Count(text, line) != 1900 {
		t.Error(strings.Count(text, line))
	}
	if _, _, e := parse.Program(text); e != api.ErrLong {
		t.Error(e)
	}
	y := sized(3999, long)
	text = Expr(y)
	if len(text) < 40000 || text != modelExpr(y) {
		t.Errorf("%d bytes: %.200q", len(text), text)
	}
	if _, _, e := parse.Expr(text); e != api.ErrLong {
		t.Error(e)
	}
	if z := programOf(over(api.Throw, "", sized(3990, long))); Line(z, 3990) != "throw "+Expr(sized(3990, long)) {
		t.Errorf("%.200q", Line(z, 3990))
	}
}

// TestR1RandomFaults: random programs with one thing changed; the model prints what is still valid.
func TestR1RandomFaults(t *testing.T) {
	g := newGrow(4)
	printed, refused := 0, 0
	for i := range 4000 {
		x := g.program(4 + i%6)
		g.spoil(&x)
		if !tree.Right(x) {
			refused++
			if got := Program(x) + Line(x, g.Intn(len(x.Nodes)+1)) + Line(x, len(x.Nodes)-2); got != "" {
				t.Fatalf("%.300q", got)
			}
			continue
		}
		printed++
		if got := Program(x); got != modelProgram(x) {
			t.Fatalf("%.1000s\nnot\n%.1000s", got, modelProgram(x))
		}
	}
	for i := range 4000 {
		x := g.expr(1 + i%7)
		g.spoil(&x)
		if got := Expr(x); got != modelExpr(x) {
			t.Fatalf("%.300q, not %.300q", got, modelExpr(x))
		}
	}
	if printed < 200 || refused < 1000 {
		t.Error(printed, refused)
	}
}

// spoil changes one thing of a tree.
func (g grow) spoil(x *api.Tree) {
	n := &x.Nodes[g.Intn(len(x.Nodes))]
	switch g.Intn(8) {
	case 0:
		n.Kind = g.Intn(30) - 1
	case 1:
		n.Text = wrongTexts[g.Intn(len(wrongTexts))]
	case 2:
		n.N = wrongNumbers[g.Intn(len(wrongNumbers))]
	case 3:
		n.Kids = append(n.Kids, g.Intn(len(x.Nodes)))
	case 4:
		if len(n.Kids) > 0 {
			n.Kids = n.Kids[1:]
		}
	case 5:
		if len(n.Kids) > 0 {
			n.Kids[g.Intn(len(n.Kids))] += 1 - 2*g.Intn(2)
		}
	case 6:
		x.Root += 1 - 2*g.Intn(2)
	case 7:
		n.At = g.Int()
	}
}
