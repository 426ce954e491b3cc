package parse

import (
	"math"
	"math/rand"
	"reflect"
	"slices"
	"strconv"
	"strings"
	"testing"

	"runnel/api"
	"runnel/token"
	"runnel/tree"
)

var kindNames = strings.Fields("- Program Global Proc Param Local Block Assign Store In Out If While Call Return Throw Try New Chan Ref Const Truth Var Index Length Addr Unary Binary")

// show is a tree as a text: of each node its kind, Text, N and At, and its kids in parentheses.
func show(t api.Tree) string {
	if len(t.Nodes) == 0 {
		return ""
	}
	return showNode(t, t.Root)
}

func showNode(t api.Tree, place int) string {
	n := t.Nodes[place]
	s := kindNames[n.Kind]
	if n.Text != "" {
		s += ":" + n.Text
	}
	if n.N != 0 {
		s += "#" + strconv.Itoa(n.N)
	}
	s += "@" + strconv.Itoa(n.At)
	if len(n.Kids) == 0 {
		return s
	}
	var kids []string
	for _, kid := range n.Kids {
		kids = append(kids, showNode(t, kid))
	}
	return s + "(" + strings.Join(kids, " ") + ")"
}

// bare is show without offsets.
func bare(s string) string {
	var b strings.Builder
	inside := false
	for _, c := range s {
		inside = c == '@' || inside && '0' <= c && c <= '9'
		if !inside {
			b.WriteRune(c)
		}
	}
	return b.String()
}

// leafText is how a node without kids is written.
func leafText(n api.Node) string {
	switch n.Kind {
	case api.Const:
		return strconv.Itoa(n.N)
	case api.Truth:
		return strconv.FormatBool(n.N == 1)
	case api.Length:
		return "len " + n.Text
	case api.Addr:
		return "&" + n.Text
	}
	return n.Text
}

// equal holds all of two trees against each other; only nil and empty are the same.
func equal(a, b api.Tree) bool {
	return a.Root == b.Root && slices.EqualFunc(a.Nodes, b.Nodes, func(x, y api.Node) bool {
		return x.Kind == y.Kind && x.N == y.N && x.At == y.At && x.Text == y.Text && slices.Equal(x.Kids, y.Kids)
	})
}

// holder holds what the calls answer against the model.
type holder struct{ model model }

func newHolder() holder { return holder{model{chapterRules}} }

func (h holder) hold(t *testing.T, s string) {
	t.Helper()
	program, programAt, programMost, programE := h.model.read(s, "program")
	expr, exprAt, exprMost, exprE := h.model.read(s, "only")
	if x, at, e := Program(s); !equal(x, program) || at != programAt || e != programE {
		t.Fatalf("Program(%.1000q): %s, %d, %v, not %s, %d, %v", s, show(x), at, e, show(program), programAt, programE)
	}
	if x, at, e := Expr(s); !equal(x, expr) || at != exprAt || e != exprE {
		t.Fatalf("Expr(%.1000q): %s, %d, %v, not %s, %d, %v", s, show(x), at, e, show(expr), exprAt, exprE)
	}
	most := -1
	switch {
	case programE == api.OK:
		most = programMost
	case exprE == api.OK:
		most = exprMost
	}
	if n := Nest(s); n != most {
		t.Fatalf("Nest(%.1000q): %d, not %d", s, n, most)
	}
}

// call is Program or Expr.
type call func(s string) (api.Tree, int, api.Errno)

func wantTree(t *testing.T, f call, s, want string) {
	t.Helper()
	x, at, e := f(s)
	if show(x) != want || at != 0 || e != api.OK {
		t.Errorf("%.200q: %s, %d, %v, not %s", s, show(x), at, e, want)
	}
	if !tree.Sound(x) {
		t.Errorf("%.200q: not sound", s)
	}
}

// wantBare is wantTree without offsets.
func wantBare(t *testing.T, f call, s, want string) {
	t.Helper()
	if x, at, e := f(s); bare(show(x)) != want || at != 0 || e != api.OK {
		t.Errorf("%.200q: %s, %d, %v, not %s", s, show(x), at, e, want)
	}
}

func wantError(t *testing.T, f call, s string, wantAt int, want api.Errno) {
	t.Helper()
	if x, at, e := f(s); len(x.Nodes) != 0 || x.Root != 0 || at != wantAt || e != want {
		t.Errorf("%.200q: %.200s, %d, %v, not %d, %v", s, show(x), at, e, wantAt, want)
	}
}

func wantNest(t *testing.T, s string, want int) {
	t.Helper()
	if n := Nest(s); n != want {
		t.Errorf("Nest(%.200q): %d, not %d", s, n, want)
	}
}

func TestExamples(t *testing.T) {
	wantTree(t, Expr, "1+2*x", "Binary:+@1(Const#1@0 Binary:*@3(Const#2@2 Var:x@4))")
	x, _, _ := Expr("1+2*x")
	var kinds []string
	for _, n := range x.Nodes {
		kinds = append(kinds, kindNames[n.Kind])
	}
	if got := strings.Join(kinds, " "); got != "Const Const Var Binary Binary" || x.Root != 4 {
		t.Error(got, x.Root)
	}
	wantError(t, Expr, "(1", 2, api.ErrForm)
	wantError(t, Expr, "1 2", 2, api.ErrForm)
	wantError(t, Program, "proc f() { x = ; }", 15, api.ErrForm)
	wantError(t, Program, "proc main() { out lo; }", 20, api.ErrForm)
}

func TestExamplesOfTheWhole(t *testing.T) {
	wantBare(t, Program, "proc f(q int) int { return q; } proc main() { var x int; x = in hi; x = call f(x); out hi x; x = call f(1); out lo x; }",
		"Program(Proc:f#1(Param:q#1 Block(Return(Var:q))) Proc:main(Local:x#1 Block(In:x(Chan:hi) Call:x(Ref:f Var:x) Out(Chan:hi Var:x) Call:x(Ref:f Const#1) Out(Chan:lo Var:x))))")
	wantBare(t, Program, "proc main() { var x int; x = in hi; while x > 0 { out lo 1; } }",
		"Program(Proc:main(Local:x#1 Block(In:x(Chan:hi) While(Binary:>(Var:x Const) Block(Out(Chan:lo Const#1))))))")
}

// TestP1Ats: each kind of node, and where it begins.
func TestP1Ats(t *testing.T) {
	in := func(s string) string { return "proc f(){" + s + "}" }
	for s, want := range map[string]string{
		"":                          "Program@0",
		"  \n# x\n":                 "Program@0",
		" var g int;":               "Program@0(Global:g#1@1)",
		"var a bool;\n  var b arr;": "Program@0(Global:a#2@0 Global:b#3@14)",
		" # c\n proc f ( ) { } ":    "Program@0(Proc:f@6(Block@17))",
		"proc f(a int,\n b fun) arr {\n var c bool; var d int; }": "Program@0(Proc:f#3@0(Param:a#1@7 Param:b#4@15 Local:c#2@29 Local:d#1@41 Block@26))",
		"var v fun; proc p() bool { return; }":                    "Program@0(Global:v#4@0 Proc:p#2@11(Block@25(Return@27)))",
		in("x=1;"):                                                "Program@0(Proc:f@0(Block@8(Assign:x@9(Const#1@11))))",
		in(" x = in lo ;"):                                        "Program@0(Proc:f@0(Block@8(In:x@10(Chan:lo@17))))",
		in("x=call g( );"):                                        "Program@0(Proc:f@0(Block@8(Call:x@9(Ref:g@16))))",
		in("x=call g(1, y);"):                                     "Program@0(Proc:f@0(Block@8(Call:x@9(Ref:g@16 Const#1@18 Var:y@21))))",
		in("call g(-1);"):                                         "Program@0(Proc:f@0(Block@8(Call@9(Ref:g@14 Unary:-@16(Const#1@17)))))",
		in("a = new  3;"):                                         "Program@0(Proc:f@0(Block@8(New:a@9(Const#3@18))))",
		in("a[1]=2+3;"):                                           "Program@0(Proc:f@0(Block@8(Store:a@9(Const#1@11 Binary:+@15(Const#2@14 Const#3@16)))))",
		in("out hi x;"):                                           "Program@0(Proc:f@0(Block@8(Out@9(Chan:hi@13 Var:x@16))))",
		in("out hi -x;"):                                          "Program@0(Proc:f@0(Block@8(Out@9(Chan:hi@13 Unary:-@16(Var:x@17)))))",
		in("if b {}"):                                             "Program@0(Proc:f@0(Block@8(If@9(Var:b@12 Block@14 Block@9))))",
		in("if b {} else {}"):                                     "Program@0(Proc:f@0(Block@8(If@9(Var:b@12 Block@14 Block@22))))",
		in("x=1; if(b){return;}"):                                 "Program@0(Proc:f@0(Block@8(Assign:x@9(Const#1@11) If@14(Var:b@17 Block@19(Return@20) Block@14))))",
		in("if a{if b{}}else{x=1;}"):                              "Program@0(Proc:f@0(Block@8(If@9(Var:a@12 Block@13(If@14(Var:b@17 Block@18 Block@14)) Block@25(Assign:x@26(Const#1@28))))))",
		in("while !b { throw 7; }"):                               "Program@0(Proc:f@0(Block@8(While@9(Unary:!@15(Var:b@16) Block@18(Throw@20(Const#7@26))))))",
		in("return 1;"):                                           "Program@0(Proc:f@0(Block@8(Return@9(Const#1@16))))",
		in("try{}catch e{x=e;}"):                                  "Program@0(Proc:f@0(Block@8(Try:e@9(Block@12 Block@21(Assign:x@22(Var:e@24))))))",
		in("try{x=1;}catch\ne\n{}"):                               "Program@0(Proc:f@0(Block@8(Try:e@9(Block@12(Assign:x@13(Const#1@15)) Block@26))))",
		in("") + "\n" + in("return;"):                             "Program@0(Proc:f@0(Block@8) Proc:f@11(Block@19(Return@20)))",
	} {
		wantTree(t, Program, s, want)
		newHolder().hold(t, s)
	}
	for s, want := range map[string]string{
		" 0":                  "Const@1",
		"9223372036854775807": "Const#9223372036854775807@0",
		"true":                "Truth#1@0",
		"\nfalse":             "Truth@1",
		"x":                   "Var:x@0",
		" a [ 1 ]":            "Index:a@1(Const#1@5)",
		"a[b[c]]":             "Index:a@0(Index:b@2(Var:c@4))",
		" len  a":             "Length:a@1",
		" & f":                "Addr:f@1",
		"- 1":                 "Unary:-@0(Const#1@2)",
		" !true":              "Unary:!@1(Truth#1@2)",
		"-!-x":                "Unary:-@0(Unary:!@1(Unary:-@2(Var:x@3)))",
		"(x)":                 "Var:x@1",
		"((x))":               "Var:x@2",
		"(1)+(2)":             "Binary:+@3(Const#1@1 Const#2@5)",
		"-(x)":                "Unary:-@0(Var:x@2)",
		"(-x)":                "Unary:-@1(Var:x@2)",
		"(a[(1)])":            "Index:a@1(Const#1@4)",
		"-a[-1]":              "Unary:-@0(Index:a@1(Unary:-@3(Const#1@4)))",
		"1 - -1":              "Binary:-@2(Const#1@0 Unary:-@4(Const#1@5))",
		"1--1":                "Binary:-@1(Const#1@0 Unary:-@2(Const#1@3))",
		"len a+len b":         "Binary:+@5(Length:a@0 Length:b@6)",
		"a&&&f":               "Binary:&&@1(Var:a@0 Addr:f@3)",
	} {
		wantTree(t, Expr, s, want)
		newHolder().hold(t, s)
	}
}

// TestP1Operators: each operator, any two of them beside each other, and beside signs.
func TestP1Operators(t *testing.T) {
	signs := slices.Concat(operatorRows...)
	row := func(sign string) int {
		return slices.IndexFunc(operatorRows, func(l []string) bool { return slices.Contains(l, sign) })
	}
	for _, s := range signs {
		wantBare(t, Expr, "a"+s+"b", "Binary:"+s+"(Var:a Var:b)")
		wantBare(t, Expr, "-a"+s+"!b", "Binary:"+s+"(Unary:-(Var:a) Unary:!(Var:b))")
		wantBare(t, Expr, "-(a"+s+"b)", "Unary:-(Binary:"+s+"(Var:a Var:b))")
		for _, z := range signs {
			left := "Binary:" + z + "(Binary:" + s + "(Var:a Var:b) Var:c)"
			right := "Binary:" + s + "(Var:a Binary:" + z + "(Var:b Var:c))"
			text := "a " + s + " b " + z + " c"
			if row(s) >= row(z) {
				wantBare(t, Expr, text, left)
			} else {
				wantBare(t, Expr, text, right)
			}
			wantBare(t, Expr, "(a "+s+" b) "+z+" c", left)
			wantBare(t, Expr, "a "+s+" (b "+z+" c)", right)
			newHolder().hold(t, "proc f() { x = "+text+"; }")
		}
	}
	wantBare(t, Expr, "a||b&&c==d+e*-f", "Binary:||(Var:a Binary:&&(Var:b Binary:==(Var:c Binary:+(Var:d Binary:*(Var:e Unary:-(Var:f))))))")
	wantBare(t, Expr, "a*b+c<d&&e||f", "Binary:||(Binary:&&(Binary:<(Binary:+(Binary:*(Var:a Var:b) Var:c) Var:d) Var:e) Var:f)")
	wantBare(t, Expr, "1-2-3-4", "Binary:-(Binary:-(Binary:-(Const#1 Const#2) Const#3) Const#4)")
	wantBare(t, Expr, "a<b<=c==d!=e>f>=g", "Binary:>=(Binary:>(Binary:!=(Binary:==(Binary:<=(Binary:<(Var:a Var:b) Var:c) Var:d) Var:e) Var:f) Var:g)")
	wantBare(t, Expr, "!a==b", "Binary:==(Unary:!(Var:a) Var:b)")
}

// corpus has each row of the grammar, and each of its alternatives.
func corpus() []string {
	l := []string{
		"", "var a int;", "var a bool; var b arr; var c fun;", "proc f() { }", "var a int; proc f() { } proc g() { }",
		"proc f(a int) { }", "proc f(a int, b bool, c arr) fun { }", "proc f() int { var a fun; var b int; }", "proc f() { var a int; a = 1; return; }",
	}
	for _, s := range []string{
		"x = 1;", "x = in lo;", "x = call g();", "x = call g(1);", "x = call g(a, -1, b);", "x = new 3;", "a[1] = 2;", "out hi x;", "out hi -x;",
		"if b { }", "if b { } else { }", "if b { x = 1; } else { y = 2; } z = 3;", "while b { }", "while b { return; }", "call g();", "call g(1, 2);",
		"return;", "return x;", "throw 1;", "try { } catch e { }", "try { throw 1; } catch e { return; } x = 1;", "if a[1] { } if b { }",
	} {
		l = append(l, "proc f() { "+s+" }")
	}
	return l
}

func expressions() []string {
	return []string{"1", "true", "false", "x", "a[1]", "len a", "& f", "( x )", "- 1", "! b", "a || b", "a && b || c", "a == b", "a != b < c", "a <= b", "a > b >= c",
		"a + b - c", "a * b / c % d", "a [ b [ 1 ] ] + 1", "- ( a + 1 )", "- a [ 0 ] - 1", "! len a", "( ( x ) ) * ( - 1 )"}
}

// TestP1EachToken: a text of the corpus as it is, ended too early, and with a token missing, one more or another one in its place, at each place, for each token that there is.
func TestP1EachToken(t *testing.T) {
	h := newHolder()
	for _, c := range []struct {
		texts []string
		row   string
		f     call
	}{{corpus(), "program", Program}, {expressions(), "only", Expr}} {
		for _, s := range c.texts {
			if _, at, e := c.f(s); at != 0 || e != api.OK {
				t.Errorf("%q: %d, %v", s, at, e)
			}
			h.hold(t, s)
			tokens, _, _ := token.Cut(s)
			h.holdChanges(t, words(tokens), c.row, c.f)
		}
	}
}

// words are the texts of tokens without the End.
func words(tokens []api.Token) []string {
	var out []string
	for _, x := range tokens[:len(tokens)-1] {
		out = append(out, x.Text)
	}
	return out
}

func (h holder) holdChanges(t *testing.T, l []string, row string, f call) {
	t.Helper()
	for i := range len(l) + 1 {
		head := l[:i:i]
		h.holdFrom(t, head, nil, row, f)
		if i < len(l) {
			h.holdFrom(t, head, l[i+1:], row, f)
		}
		for _, x := range vocabulary {
			h.holdFrom(t, append(head, x), l[i:], row, f)
			if i < len(l) {
				h.holdFrom(t, append(head, x), l[i+1:], row, f)
			}
		}
	}
}

// holdFrom holds one of the calls against the model.
func (h holder) holdFrom(t *testing.T, head, tail []string, row string, f call) {
	t.Helper()
	s := strings.Join(slices.Concat(head, tail), " ")
	want, wantAt, _, wantE := h.model.read(s, row)
	if x, at, e := f(s); !equal(x, want) || at != wantAt || e != wantE {
		t.Fatalf("%s %q: %s, %d, %v, not %s, %d, %v", row, s, show(x), at, e, show(want), wantAt, wantE)
	}
}

// TestP1Wrong: texts and the places of the first token that cannot occur.
func TestP1Wrong(t *testing.T) {
	for s, at := range map[string]int{
		"x": 0, "1": 0, ";": 0, "{": 0, "}": 0, "int": 0, "# a\n  x": 6,
		"var": 3, "var ": 4, "var x": 5, "var x int": 9, "var x int x": 10, "var 1": 4, "var x y": 6, "var x int;;": 10, "var int x;": 4, "var x int, y int;": 9, "var x var": 6, "var x in;": 6, "var x int = 1;": 10,
		"proc": 4, "proc 1": 5, "proc f": 6, "proc f {": 7, "proc f(": 7, "proc f(x": 8, "proc f(x)": 8, "proc f(x int": 12, "proc f(x int,": 13, "proc f(x int,)": 13, "proc f(int x)": 7, "proc f(,": 7, "proc f(x int y int)": 13, "proc f(x int;": 12,
		"proc f()": 8, "proc f() ;": 9, "proc f() x {": 9, "proc f() int": 12, "proc f() int int": 13, "proc f() {": 10, "proc f() { } }": 13, "proc f() { } ;": 13, "proc f() { } var x int;": 13, "proc f() { } x = 1;": 13, "proc f() { proc": 11,
		"proc f() { var x int }": 21, "proc f() { x = 1; var y int; }": 18, "proc f() { if b { var y int; } }": 18,
		"proc f() { x": 12, "proc f() { x }": 13, "proc f() { x; }": 12, "proc f() { x = }": 15, "proc f() { x = 1 }": 17, "proc f() { x == 1; }": 13, "proc f() { x 1; }": 13, "proc f() { x(1); }": 12, "proc f() { 1 = x; }": 11, "proc f() { -x = 1; }": 11, "proc f() { (x) = 1; }": 11, "proc f() { ; }": 11, "proc f() { { } }": 11, "proc f() { x = 1;; }": 17,
		"proc f() { x = in 1; }": 18, "proc f() { x = in; }": 17, "proc f() { x = in lo + 1; }": 21, "proc f() { x = 1 + in lo; }": 19, "proc f() { x = (in lo); }": 16, "proc f() { x = -in lo; }": 16,
		"proc f() { x = call; }": 19, "proc f() { x = call g; }": 21, "proc f() { x = call g(; }": 22, "proc f() { x = call g(1; }": 23, "proc f() { x = call g(1,); }": 24, "proc f() { x = call g(,1); }": 22, "proc f() { x = call g() + 1; }": 24, "proc f() { x = call g()(); }": 23, "proc f() { x = call g[1](); }": 21, "proc f() { x = 1 + call g(); }": 19, "proc f() { x = call (g)(); }": 20, "proc f() { x = g(); }": 16, "proc f() { g(); }": 12,
		"proc f() { x = new; }": 18, "proc f() { x = new new 1; }": 19, "proc f() { x = new 1 }": 21, "proc f() { x = x = 1; }": 17,
		"proc f() { a[ = 1; }": 14, "proc f() { a[] = 1; }": 13, "proc f() { a[1 = 1; }": 15, "proc f() { a[1]; }": 15, "proc f() { a[1] == 1; }": 16, "proc f() { a[1][2] = 1; }": 15, "proc f() { a[1] = in lo; }": 18, "proc f() { a[1] = call g(); }": 18, "proc f() { a[1] = new 1; }": 18,
		"proc f() { out; }": 14, "proc f() { out 1; }": 15, "proc f() { out lo; }": 17, "proc f() { out lo x }": 20, "proc f() { out lo, x; }": 17, "proc f() { out lo = x; }": 18,
		"proc f() { if }": 14, "proc f() { if { } }": 14, "proc f() { if b }": 16, "proc f() { if b x = 1; }": 16, "proc f() { if b { }": 19, "proc f() { if b { } else }": 25, "proc f() { if b { } else if c { } }": 25, "proc f() { else { } }": 11, "proc f() { if b { } else { } else { } }": 29, "proc f() { if b { }; }": 19, "proc f() { if b { } ; }": 20,
		"proc f() { while }": 17, "proc f() { while { } }": 17, "proc f() { while b; }": 18, "proc f() { while b { } else { } }": 23,
		"proc f() { call; }": 15, "proc f() { call g; }": 17, "proc f() { call g() }": 20, "proc f() { call g() + 1; }": 20,
		"proc f() { return }": 18, "proc f() { return 1 }": 20, "proc f() { return call g(); }": 18, "proc f() { return return; }": 18, "proc f() { return 1, 2; }": 19,
		"proc f() { throw; }": 16, "proc f() { throw 1 }": 19, "proc f() { throw throw 1; }": 17,
		"proc f() { try }": 15, "proc f() { try { } }": 19, "proc f() { try { } catch }": 25, "proc f() { try { } catch { } }": 25, "proc f() { try { } catch e }": 27, "proc f() { try { } catch e, g { } }": 26, "proc f() { try { } catch e { } catch e { } }": 31, "proc f() { catch e { } }": 11, "proc f() { try x = 1; catch e { } }": 15,
	} {
		wantError(t, Program, s, at, api.ErrForm)
		newHolder().hold(t, s)
	}
	for s, at := range map[string]int{
		"": 0, " ": 1, "# x": 3, "\n\n": 2, ")": 0, "]": 0, ";": 0, "=": 0, ",": 0, "1;": 1, "1)": 1, "1]": 1, "1 2": 2, "a b": 2, "true false": 5, "1+": 2, "1 + ": 4, "+1": 0, "*1": 0, "1**2": 2, "1+*2": 2, "-": 1, "!": 1, "--": 2, "x!": 1, "x!y": 1, "1==": 3, "a<>b": 2, "a=b": 1, "a=!b": 1,
		"(": 1, "()": 1, "(1": 2, "(1]": 2, "(1,2)": 2, "((1)": 4, "(1))": 3, "a[": 2, "a[]": 2, "a[1": 3, "a[1)": 3, "a[1][2]": 4, "a[1]b": 4, "1[1]": 1, "(a)[1]": 3, "len": 3, "len 1": 4, "len (a)": 4, "len a[1]": 5, "len len a": 4, "&": 1, "&1": 1, "&(f)": 1, "&f[1]": 2, "&f(1)": 2, "& &f": 2, "a & b": 2, "f(1)": 1, "f()": 1,
		"in lo": 0, "call f()": 0, "new 1": 0, "var": 0, "if": 0, "int": 0, "x = 1;": 2, "proc f() { }": 0, "var x int;": 0, "1 # x\n 2": 7, "true[1]": 4, "a || || b": 5, "a &&": 4, "{1}": 0,
	} {
		wantError(t, Expr, s, at, api.ErrForm)
		newHolder().hold(t, s)
	}
}

// TestP1CutRefuses: what the lexer refuses comes ahead of all that the grammar could.
func TestP1CutRefuses(t *testing.T) {
	long := strings.Repeat("n", 21)
	for s, at := range map[string]int{"$": 0, "1 $": 2, "x x x $": 6, "x = 007": 4, "1a": 0, ") ) 1a )": 4, "9223372036854775808": 0, "1 + 9223372036854775808": 4, "| 1": 0, "x | y": 2, "x\r\n": 1, "\xff": 0, "é": 0,
		long: 0, "1 " + long: 2, "proc f() { x = ; } $": 19, "proc f() { $ }": 11, strings.Repeat("(", 41) + "$": 41, strings.Repeat("(", 50) + "1a": 50, "proc f() {" + strings.Repeat("x=1;", 2500) + "}$": 10011} {
		wantError(t, Program, s, at, api.ErrForm)
		wantError(t, Expr, s, at, api.ErrForm)
		wantNest(t, s, -1)
	}
	for _, c := range []string{" ", "\n", "#", "(", "x ", "-", "$", "\xff", "proc f() { } ", "var x int;", "1+"} {
		for _, size := range []int{20001, 20002, 1 << 20} {
			s := strings.Repeat(c, size/len(c)+1)[:size]
			wantError(t, Program, s, 0, api.ErrLong)
			wantError(t, Expr, s, 0, api.ErrLong)
			wantNest(t, s, -1)
		}
	}
	// What has as many bytes as a text may have is read.
	wantTree(t, Program, strings.Repeat(" ", 20000), "Program@0")
	wantTree(t, Program, "#"+strings.Repeat("$", 19999), "Program@0")
	wantTree(t, Expr, strings.Repeat(" ", 19999)+"1", "Const#1@19999")
	wantError(t, Expr, strings.Repeat(" ", 20000), 20000, api.ErrForm)
	wantError(t, Program, strings.Repeat(" ", 19999)+"1", 19999, api.ErrForm)
	wantError(t, Program, strings.Repeat(" ", 19999)+"$", 19999, api.ErrForm)
}

// TestP1Empty: no tokens but the End.
func TestP1Empty(t *testing.T) {
	for _, s := range []string{"", " ", "\t\n ", "#", "# x", "# (\n", "\n# proc\n# f() {\n\n"} {
		wantTree(t, Program, s, "Program@0")
		wantError(t, Expr, s, len(s), api.ErrForm)
		wantNest(t, s, 0)
	}
}

// TestP1OpenInExpressions: 39, 40 and 41 of each kind that may be open.
func TestP1OpenInExpressions(t *testing.T) {
	repeat := strings.Repeat
	for n := range 60 {
		for _, c := range []struct {
			opener, closer string
			deepens        bool
		}{{"(", ")", false}, {"-", "", true}, {"!", "", true}, {"a[", "]", true}, {"(1+", ")", true}, {"1+(", ")", true}, {"1--", "", false}} {
			s := repeat(c.opener, n) + "x" + repeat(c.closer, n)
			newHolder().hold(t, s)
			switch {
			case c.opener == "1--": // The signs are complete ahead of the next operator.
				continue
			case n > 40:
				last := strings.LastIndexAny(c.opener, "(-![")
				wantError(t, Expr, s, 40*len(c.opener)+last, api.ErrDeep)
				wantNest(t, s, -1)
			case c.deepens && n == 40:
				wantError(t, Expr, s, 0, api.ErrDeep)
				wantNest(t, s, -1)
			default:
				wantNest(t, s, n)
			}
		}
	}
	// Mixed: forty of which not all have a node are not too deep.
	mixed := repeat("(-!a[", 10)
	wantNest(t, repeat("(-!a[", 9)+"(-!x)"+repeat("])", 9), 39)
	wantNest(t, mixed+"x"+repeat("])", 10), 40)
	wantError(t, Expr, mixed+"(x)"+repeat("])", 10), 50, api.ErrDeep)
	wantError(t, Expr, mixed+"-x"+repeat("])", 10), 50, api.ErrDeep)
	wantError(t, Expr, mixed+"!x"+repeat("])", 10), 50, api.ErrDeep)
	wantError(t, Expr, mixed+"x[1]"+repeat("])", 10), 51, api.ErrDeep)
	wantNest(t, mixed+"x-x"+repeat("])", 10), 40)
}

// TestP1SignsEnd: a sign is open as long as its operand is not complete, and no longer.
func TestP1SignsEnd(t *testing.T) {
	parens := func(n int, inner string) string { return strings.Repeat("(", n) + inner + strings.Repeat(")", n) }
	for s, want := range map[string]int{
		"-x": 1, "-x-y": 1, "-x-(y)": 1, "-x+-y": 1, "-x*-y": 1, "--x": 2, "--x--y": 2, "-(x)": 2, "-(x)-(y)": 2, "-a[1]": 2, "-a[-1]": 3, "a[-1]-1": 2, "-a[1]-a[1]": 2, "-len a-(x)": 1, "-&f==(x)": 1, "!true&&(x)": 1, "!1||(x)": 1, "-(-x)": 3, "-(x)+((y))": 2, "!-!-x": 4,
	} {
		wantNest(t, s, want)
		newHolder().hold(t, s)
	}
	// At forty open, what is complete makes room for one more.
	for _, s := range []string{"-x-(y)", "-(x)", "-a[1]-(-x)", "-len a-(x)", "!true&&a[-1]", "-1*(-1)", "-a[1]*b[1]*(-c)"} {
		n := Nest(s)
		newHolder().hold(t, parens(40-n, s))
		wantNest(t, parens(40-n, s), 40)
		newHolder().hold(t, parens(41-n, s))
		wantNest(t, parens(41-n, s), -1)
	}
	wantError(t, Expr, parens(39, "-a[1]"), 41, api.ErrDeep)
	wantError(t, Expr, parens(39, "-x-(-y)"), 43, api.ErrDeep)
	if _, at, e := Expr(parens(39, "-x-(y)")); at != 0 || e != api.OK {
		t.Error(at, e)
	}
}

// TestP1OpenInPrograms: braces, and the parentheses and brackets of statements.
func TestP1OpenInPrograms(t *testing.T) {
	repeat := strings.Repeat
	const head = "proc f() {"
	for n := range 60 {
		for _, c := range [][2]string{{"while x {", "}"}, {"if x {", "}"}, {"if x {} else {", "}"}, {"try {", "} catch e { }"}, {"try {} catch e {", "}"}} {
			s := head + repeat(c[0], n) + repeat(c[1], n) + "}"
			newHolder().hold(t, s)
			if n >= 40 {
				wantError(t, Program, s, len(head)+39*len(c[0])+strings.Index(c[0], "{"), api.ErrDeep)
			}
			// Of the braces, depth allows no more than nineteen: Program, Proc, Block and two nodes each.
			if n == 18 && Nest(s) != 19 || n >= 19 && Nest(s) != -1 {
				t.Error(s, Nest(s))
			}
		}
		for _, c := range []struct {
			statement     string
			around, other int // constructs that are open around the expression, and at most elsewhere
		}{{"x = %;", 1, 1}, {"call g(1, %);", 2, 2}, {"x = call g(%);", 2, 2}, {"a[%] = 1;", 2, 2}, {"a[0] = %;", 1, 2}, {"out lo %;", 1, 1}, {"if % { }", 1, 2}, {"while % { }", 1, 2}, {"throw %;", 1, 1}, {"return %;", 1, 1}, {"x = new %;", 1, 1}} {
			s := head + strings.Replace(c.statement, "%", repeat("(", n)+"x"+repeat(")", n), 1) + "}"
			newHolder().hold(t, s)
			if c.around+n <= 40 {
				wantNest(t, s, max(c.around+n, c.other))
			} else {
				wantError(t, Program, s, len(head)+strings.Index(c.statement, "%")+40-c.around, api.ErrDeep)
			}
		}
	}
	wantError(t, Program, head+repeat("while x {", 39)+"call g();", len(head)+39*9+6, api.ErrDeep)
	wantError(t, Program, head+repeat("while x {", 39)+"a[1] = 1;", len(head)+39*9+1, api.ErrDeep)
	wantError(t, Program, head+repeat("while x {", 39)+"x = -1;", len(head)+39*9+4, api.ErrDeep)
	wantError(t, Program, head+repeat("while x {", 39)+"x = 1 - 1; )", len(head)+39*9+11, api.ErrForm)
	wantError(t, Program, head+repeat("while x {", 39)+"x = 1 - 1;"+repeat("}", 40), 0, api.ErrDeep)
}

// TestP1WrongAndOpens: a token that cannot occur is that, even if it would also be one too many; and whichever comes first is told.
func TestP1WrongAndOpens(t *testing.T) {
	parens := strings.Repeat("(", 40)
	for s, at := range map[string]int{"{": 40, "[": 40, "x(": 41, "x{": 41, "1[": 41, "x!": 41, "true(": 44, "true[": 44, "1(": 41, "len (": 44, "len -": 44, "&(": 41, "&!": 41, "&f[": 42, "len a[": 45, "x+{": 42, "x+[": 42} {
		wantError(t, Expr, parens+s, at, api.ErrForm)
		newHolder().hold(t, parens+s)
	}
	for s, at := range map[string]int{"(": 40, "-": 40, "!": 40, "x[": 41, "x+(": 42, "x--": 42, "x-!": 42, "(((": 40, "( )": 40, "- {": 40} {
		wantError(t, Expr, parens+s, at, api.ErrDeep)
		newHolder().hold(t, parens+s)
	}
	wantError(t, Expr, ")"+strings.Repeat("(", 50), 0, api.ErrForm)
	wantError(t, Expr, strings.Repeat("(", 50)+")", 40, api.ErrDeep)
	wantError(t, Program, strings.Repeat("(", 50), 0, api.ErrForm)
	wantError(t, Program, strings.Repeat("{", 50), 0, api.ErrForm)
	signs := strings.Repeat("-", 40)
	wantError(t, Expr, signs+"{", 40, api.ErrForm)
	wantError(t, Expr, signs+"x[", 41, api.ErrDeep)
	wantError(t, Expr, signs+"x(", 41, api.ErrForm)
	wantError(t, Expr, signs+"x-(1", 44, api.ErrForm)
	wantError(t, Expr, signs+"x-(1)", 0, api.ErrDeep)
	braces := "proc f() {" + strings.Repeat("while x {", 39)
	for s, at := range map[string]int{"{": 0, "(": 0, "[": 0, "-": 0, "!": 0, "x(": 1, "x{": 1, "call (": 5, "call {": 5, "call g[": 6, "while {": 6, "try (": 4, "if {": 3} {
		wantError(t, Program, braces+s, len(braces)+at, api.ErrForm)
	}
	for s, at := range map[string]int{"x[": 1, "call g(": 6, "while x {": 8, "if (": 3, "try {": 4, "x=-": 2, "throw !": 6, "return (": 7, "out lo -": 7} {
		wantError(t, Program, braces+s, len(braces)+at, api.ErrDeep)
	}
}

// wide is an expression of so many nodes, an odd number, that is not deep: blocks of sums over sums.
func wide(nodes int) string {
	if nodes == 1 {
		return "x"
	}
	left := (nodes - 1) / 2
	if left%2 == 0 {
		left--
	}
	return "(" + wide(left) + ")+(" + wide(nodes-1-left) + ")"
}

// TestP1Nodes: 4000 nodes are not too many, 4001 are.
func TestP1Nodes(t *testing.T) {
	repeat := strings.Repeat
	const head = "proc f() {"
	for s, nodes := range map[string]int{
		head + repeat("x=1;", 1998) + "}":                          3999,
		head + repeat("x=1;", 1998) + "return;}":                   4000,
		head + repeat("x=1;", 1998) + "x=1;}":                      4001,
		head + repeat("return;", 2500) + "}":                       2503,
		"var x int;" + head + repeat("x=1;", 1998) + "}":           4000,
		"var x int;var y int;" + head + repeat("x=1;", 1998) + "}": 4001,
		head + repeat("if x{}", 999) + "return;}":                  4000,
		head + repeat("if x{}", 999) + "x=1;}":                     4001,
		repeat("proc f(){}", 1999):                                 3999,
		repeat("proc f(){}", 2000):                                 4001,
		repeat("proc f(){}", 1998) + "proc f(a int){}":             4000,
		repeat("proc f(){}", 1998) + "proc f(){return;}":           4000,
		repeat("proc f(){}", 1997) + "proc f(a int,b int){x=1;}":   4001,
		head + "call g(" + repeat("x,", 3993) + "x);}":             3999,
		head + "call g(" + repeat("x,", 3994) + "x);}":             4000,
		head + "call g(" + repeat("x,", 3995) + "x);}":             4001,
		head + "call g(" + repeat("x,", 9900) + "x);}":             9906,
	} {
		x, at, e := Program(s)
		switch {
		case nodes > 4000 && (len(x.Nodes) != 0 || at != 0 || e != api.ErrMany || Nest(s) != -1):
			t.Errorf("%.30q: %d: %d, %d, %v", s, nodes, len(x.Nodes), at, e)
		case nodes <= 4000 && (len(x.Nodes) != nodes || at != 0 || e != api.OK || !tree.Right(x) || Nest(s) < 1):
			t.Errorf("%.30q: %d: %d, %d, %v", s, nodes, len(x.Nodes), at, e)
		}
	}
	for _, nodes := range []int{1, 3, 255, 3997, 3999, 4001, 4003} {
		x, at, e := Expr(wide(nodes))
		if nodes <= 4000 && (len(x.Nodes) != nodes || e != api.OK || tree.Depth(x) > 14) || nodes > 4000 && e != api.ErrMany || at != 0 {
			t.Error(nodes, len(x.Nodes), at, e)
		}
		x, at, e = Expr("-(" + wide(nodes) + ")")
		if nodes < 4000 && (len(x.Nodes) != nodes+1 || e != api.OK) || nodes >= 4000 && e != api.ErrMany || at != 0 {
			t.Error(nodes, len(x.Nodes), at, e)
		}
	}
}

// TestP1NodesAndOthers: too many nodes come behind a wrong token, wherever that is, and ahead of the depth.
func TestP1NodesAndOthers(t *testing.T) {
	many := strings.Repeat("x=1;", 2500)
	wantError(t, Program, "proc f() {"+many, 10010, api.ErrForm)
	wantError(t, Program, "proc f() {"+many+"x=;}", 10012, api.ErrForm)
	wantError(t, Program, "proc f() {"+many+"}}", 10011, api.ErrForm)
	wantError(t, Program, "proc f() {"+many+"x="+strings.Repeat("(", 50), 10012+39, api.ErrDeep)
	wantError(t, Program, "proc f() {"+many+"x="+strings.Repeat("1+", 50)+"1;}", 0, api.ErrMany)
	wantError(t, Program, "proc f() {"+strings.Repeat("x=1;", 1950)+"x="+strings.Repeat("1+", 50)+"1;}", 0, api.ErrMany)
	wantError(t, Program, "proc f() {"+strings.Repeat("x=1;", 1900)+"x="+strings.Repeat("1+", 50)+"1;}", 0, api.ErrDeep)
	wantError(t, Expr, strings.Repeat("1+", 1999)+"1", 0, api.ErrDeep)
	wantError(t, Expr, strings.Repeat("1+", 2000)+"1", 0, api.ErrMany)
	wantError(t, Expr, strings.Repeat("1+", 9999)+"1", 0, api.ErrMany)
	wantError(t, Expr, strings.Repeat("1+", 9999), 19998, api.ErrForm)
	wantError(t, Expr, strings.Repeat("1+", 9990)+strings.Repeat("-", 20), 20000, api.ErrForm)
	wantError(t, Expr, strings.Repeat("(", 41)+strings.Repeat("1+", 9000)+"1", 40, api.ErrDeep)
}

// TestP1Depth: a depth of 40 is not too much, one of 41 is.
func TestP1Depth(t *testing.T) {
	repeat := strings.Repeat
	body := func(s string) string { return "proc f() {" + s + "}" }
	for _, c := range []struct {
		f     call
		make  func(n int) string
		above int // the depth for n 0
	}{
		{Expr, func(n int) string { return repeat("1+", n) + "x" }, 1},
		{Expr, func(n int) string { return "x" + repeat("*(x", n) + repeat(")", n) }, 1},
		{Expr, func(n int) string { return repeat("-", n) + "x" }, 1},
		{Expr, func(n int) string { return repeat("a[", n) + "x" + repeat("]", n) }, 1},
		{Expr, func(n int) string { return "1+(" + repeat("1+", n) + "x)" }, 2},
		{Expr, func(n int) string { return "-a[" + repeat("1+", n) + "x]" }, 3},
		{Program, func(n int) string { return body("x = " + repeat("1-", n) + "1;") }, 5},
		{Program, func(n int) string { return body("out lo " + repeat("1-", n) + "1;") }, 5},
		{Program, func(n int) string { return body("if " + repeat("1-", n) + "1 { }") }, 5},
		{Program, func(n int) string { return body("call f(1, " + repeat("1-", n) + "1, 2);") }, 5},
		{Program, func(n int) string { return body("a[" + repeat("1-", n) + "1] = 0;") }, 5},
		{Program, func(n int) string { return body("while b { if c { throw " + repeat("!", n) + "x; } }") }, 9},
		{Program, func(n int) string { return body("try { } catch e { return " + repeat("1-", n) + "1; }") }, 7},
	} {
		for n := range 60 {
			s := c.make(n)
			x, at, e := c.f(s)
			depth := c.above + n
			if depth <= 40 && (e != api.OK || at != 0 || tree.Depth(x) != depth || Nest(s) < 0) {
				t.Errorf("%q: %d, %v", s, at, e)
			}
			if depth > 40 && (e != api.ErrDeep || len(x.Nodes) != 0 || Nest(s) != -1) {
				t.Errorf("%q: %d, %v", s, at, e)
			}
			newHolder().hold(t, s)
		}
	}
	for n, want := range map[int]api.Errno{18: api.OK, 19: api.ErrDeep, 39: api.ErrDeep} {
		if _, at, e := Program(body(repeat("while x {", n) + repeat("}", n))); e != want || at != 0 {
			t.Error(n, at, e)
		}
	}
}

func TestP2Nest(t *testing.T) {
	for s, want := range map[string]int{
		"": 0, "var x int;": 0, "proc f() { }": 1, "proc f(a int) { }": 1, "proc f() { x = 1; }": 1, "proc f() { x = -1; }": 2, "proc f() { x = (a[-1]); }": 4, "proc f() { call g(); }": 2, "proc f() { call g(a[1]); }": 3, "proc f() { if b { } }": 2, "proc f() { if b { } else { x = (1); } }": 3,
		"proc f() { while b { while b { } } }": 3, "proc f() { try { } catch e { x = - - 1; } }": 4, "proc f() { a[1] = 1; }": 2, "proc f() { a[(1)] = ((1)); }": 3, "proc f() { } proc g() { if b { } } proc h() { }": 2, "var x int; proc f() { out lo -(x); }": 3, "proc f() { out lo 1 - 1; }": 1, "proc f() { return !b; }": 2,
		"x": 0, "1": 0, "1+2*3": 0, "1-2": 0, "(1)": 1, "((1))": 2, "(1)+(1)": 1, "a[1]": 1, "-1": 1, "!b": 1, "-!-b": 3, "-(1)": 2, "(-1)": 2, "a[b[c[1]]]": 3, "1-(-1)": 2, "len a": 0, "& f": 0, "true": 0,
		"x = 1;": -1, "(": -1, "1 1": -1, "$": -1, "proc": -1, "proc f() {": -1, "{ }": -1, "(1": -1, "((((1)))": -1, ")": -1, "proc f() { } 1": -1, "1 proc f() { }": -1, "f(1)": -1, "007": -1, "()": -1, "{": -1,
	} {
		wantNest(t, s, want)
		newHolder().hold(t, s)
	}
	// Nothing but what Program or Expr read has a nesting: not what is too deep, has too many nodes or is too long.
	for _, s := range []string{strings.Repeat("(", 41) + "x" + strings.Repeat(")", 41), strings.Repeat("1+", 40) + "1", strings.Repeat("1+", 2000) + "1", "proc f() {" + strings.Repeat("x=1;", 1999) + "}", "x" + strings.Repeat(" ", 20000)} {
		wantNest(t, s, -1)
	}
}

func TestP3BlanksAndParentheses(t *testing.T) {
	for _, l := range [][]string{
		{"1+2*x", " 1 + 2 * x ", "1\n+\n2\n*\nx", "#a\n1#b\n+#c\n2#d\n*#e\nx#f", "(1)+(2)*(x)", "1+(2*x)", "(1+2*x)", "((1)+((2)*(x)))", "1+(2)*x"},
		{"-a[1]-!b", "-(a[1])-!b", "-a[(1)]-!(b)", "(-a[1])-(!b)", "- a [ 1 ] - ! b", "(((-((a[((1))]))-(!((b))))))"},
		{"len a==0", "len\ta\n==\n0", "(len a)==(0)", "len#a\na==0"},
		{"&f", "& f", "(&f)", "&#\nf", "( & f )"},
	} {
		want, _, e := Expr(l[0])
		for _, s := range l {
			if got, at, gotE := Expr(s); !tree.Same(got, want) || at != 0 || gotE != e || e != api.OK {
				t.Errorf("%q: %s, %v", s, show(got), gotE)
			}
		}
	}
	different, _, _ := Expr("(1+2)*x")
	if want, _, _ := Expr("1+2*x"); tree.Same(different, want) {
		t.Error("parentheses around no operand")
	}
	const program = "var g int; proc f ( a arr , x int ) int { var b bool ; a [ x ] = 1 ; if b { return x ; } else { call f ( a , 1 ) ; } try { x = in lo ; } catch x { out hi -x ; } }"
	want, _, e := Program(program)
	for _, s := range []string{strings.ReplaceAll(program, " ", "\n"), strings.ReplaceAll(program, " ", "#}\n"), strings.ReplaceAll(program, " ", " \t "), "\n" + program + "#", strings.NewReplacer("[ x ]", "[((x))]", "= 1", "= (1)", "if b", "if (b)", "return x", "return (x)", "-x", "(-(x))", ", 1", ",(1)").Replace(program)} {
		if got, at, gotE := Program(s); !tree.Same(got, want) || !tree.Right(got) || at != 0 || gotE != api.OK || e != api.OK {
			t.Errorf("%q: %s, %d, %v", s, show(got), at, gotE)
		}
	}
	for _, s := range corpus() {
		if x, _, e := Program(s); e != api.OK || !tree.Right(x) {
			t.Errorf("%q: %v", s, e)
		}
	}
}

// TestTotality covers P1 and P7 of the document: no text makes a call panic.
func TestTotality(t *testing.T) {
	texts := []string{"\x00", "\xff\xfe", strings.Repeat("\x00", 30000), strings.Repeat("1", 1<<20), strings.Repeat("9", 19999)}
	for _, w := range append(slices.Clone(vocabulary), "proc f() {", "while x {", "x=", "a[", "1+", "- ", "if x {} else {", "try {", "call f(", "#", "\n", " ") {
		texts = append(texts, strings.Repeat(w, 20000/len(w)), strings.Repeat(w+" ", 20000/(len(w)+1)), "proc f() {"+strings.Repeat(w+" ", 15000/(len(w)+1)))
	}
	r := rand.New(rand.NewSource(6))
	for range 2000 {
		b := make([]byte, r.Intn(80))
		for i := range b {
			b[i] = byte(r.Intn(256))
		}
		texts = append(texts, string(b))
		for i := range b {
			b[i] = "ax10 \n#(){}[],;=<>+-*/%!&|"[r.Intn(26)]
		}
		texts = append(texts, string(b))
	}
	for _, s := range texts {
		x, at, e := Program(s)
		y, atExpr, eExpr := Expr(s)
		if at < 0 || at > len(s) || atExpr < 0 || atExpr > len(s) || Nest(s) < -1 || Nest(s) > 40 {
			t.Errorf("%.50q: %d, %d, %d", s, at, atExpr, Nest(s))
		}
		if (e == api.OK) != tree.Right(x) || (eExpr == api.OK) != tree.Sound(y) || (Nest(s) >= 0) != (e == api.OK || eExpr == api.OK) {
			t.Errorf("%.50q: %v, %v", s, e, eExpr)
		}
	}
}

// TestNothingBesideAnError covers P2 of the document.
func TestNothingBesideAnError(t *testing.T) {
	for _, s := range []string{"$", "proc f() { x = 1; } )", "1 + 2 )", "(((", strings.Repeat("(", 41), strings.Repeat("1+", 40) + "1", strings.Repeat("1+", 2000) + "1", "proc f() {" + strings.Repeat("x=1;", 1999) + "}", strings.Repeat(" ", 20001)} {
		for _, f := range []call{Program, Expr} {
			if x, _, e := f(s); len(x.Nodes) != 0 || x.Root != 0 || e == api.OK {
				t.Errorf("%.50q: %d, %d, %v", s, len(x.Nodes), x.Root, e)
			}
		}
	}
}

// TestFresh covers P3 of the document: a tree is nobody else's, and no two lists of it share memory.
func TestFresh(t *testing.T) {
	for _, s := range append(corpus(), expressions()...) {
		for _, f := range []call{Program, Expr} {
			first, _, e := f(s)
			if e != api.OK {
				continue
			}
			second, _, _ := f(s)
			want := show(second)
			for i := range first.Nodes {
				kids := first.Nodes[i].Kids
				for j := range kids[:cap(kids)] {
					kids[:cap(kids)][j] = math.MinInt + i
				}
			}
			for i, n := range first.Nodes {
				for _, kid := range n.Kids {
					if kid != math.MinInt+i {
						t.Fatalf("%q: the Kids of %d are those of another node", s, i)
					}
				}
			}
			clear(first.Nodes[:cap(first.Nodes)])
			third, _, _ := f(s)
			if show(second) != want || show(third) != want {
				t.Errorf("%q: %s, %s, not %s", s, show(second), show(third), want)
			}
		}
	}
}

// TestSameAnswers covers P4 of the document: the same call answers the same, whatever was asked in between.
func TestSameAnswers(t *testing.T) {
	texts := append(corpus(), append(expressions(), "", "$", "(", strings.Repeat("(", 41), strings.Repeat("-", 41), "1 2", "proc f() { x = ; }", strings.Repeat("1+", 40)+"1", strings.Repeat(" ", 20001))...)
	for _, s := range texts {
		program, programAt, programE := Program(s)
		expr, exprAt, exprE := Expr(s)
		nest := Nest(s)
		for _, between := range texts {
			Program(between)
			Expr(between)
			Nest(between)
			x, at, e := Program(s)
			if !reflect.DeepEqual(x, program) || at != programAt || e != programE {
				t.Errorf("Program(%.50q) behind %.50q: %d, %v", s, between, at, e)
			}
			x, at, e = Expr(s)
			if !reflect.DeepEqual(x, expr) || at != exprAt || e != exprE || Nest(s) != nest {
				t.Errorf("Expr(%.50q) behind %.50q: %d, %v", s, between, at, e)
			}
		}
	}
}

// TestWaysPanic: a token that cannot occur is a panic, caught on the way out; another panic is not taken for one.
func TestWaysPanic(t *testing.T) {
	cut := func(s string) *parser {
		tokens, _, _ := token.Cut(s)
		return &parser{tokens: tokens}
	}
	if r := cut("1 )").follow((*parser).onlyExpr); r != (refusal{2, api.ErrForm}) {
		t.Error(r)
	}
	if r := cut("1").follow((*parser).onlyExpr); r != (refusal{}) {
		t.Error(r)
	}
	func() {
		defer func() {
			if recover() != (refusal{2, api.ErrForm}) {
				t.Error("no panic, or another one")
			}
		}()
		cut("1 )").onlyExpr()
	}()
	defer func() {
		if recover() == nil {
			t.Error("a mistake of the parser is hidden")
		}
	}()
	cut("1").follow(func(p *parser) { panic("a mistake") })
}
