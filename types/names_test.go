package types

import (
	"math"
	"slices"
	"strings"
	"testing"

	"runnel/api"
	"runnel/tree"
)

// sampleText has all kinds of expressions, and names that denote nothing; the places of its nodes stand beside it.
const sampleText = `var g int; var x bool;                                                        # 0 1
proc f(x int) int { var z arr; if x < 2 { return z[x] + len z; } return -g; }                    # 2 to 19
proc t(y arr) { x = !x && true || g == z; }                                                      # 20 to 31
proc main() { var x fun; var g fun; x = &f; g = &nil;                                            # 32 to 37
              try { out lo nil[x]; } catch g { throw 1; } z = call x(g, len nil); }              # 38 to 52, and 53
`

// outside are places at which no tree has a node.
var outside = []int{math.MinInt, -1 << 32, -2, -1, 4000, 4096, 1 << 31, 1 << 32, math.MaxInt}

// sampleOwner is the owner of a node of the sample.
func sampleOwner(place int) int {
	switch {
	case 2 <= place && place <= 19:
		return 19
	case 20 <= place && place <= 31:
		return 31
	case 32 <= place && place <= 52:
		return 52
	}
	return -1
}

func TestC2Owner(t *testing.T) {
	x := parsed(t, sampleText)
	if len(x.Nodes) != 54 {
		t.Fatal(len(x.Nodes))
	}
	for place := range x.Nodes {
		if got := Owner(x, place); got != sampleOwner(place) {
			t.Error(place, got)
		}
	}
	for _, place := range append(outside, 54, 55) {
		if got := Owner(x, place); got != -1 {
			t.Error(place, got)
		}
	}
	hold(t, x, "nil")
}

func TestC2Type(t *testing.T) {
	x := parsed(t, sampleText)
	want := map[int]int{
		4: api.Int, 5: api.Int, 6: api.Bool, 7: api.Int, 8: api.Int, 9: api.Int, 10: api.Int, 15: api.Int, 16: api.Int,
		21: api.Bool, 22: api.Bool, 23: api.Bool, 24: api.Bool, 25: api.Int, 27: api.Bool, 28: api.Bool,
		34: api.Fun, 36: api.Fun, 39: api.Fun, 40: api.Int, 43: api.Int, 48: api.Fun, 49: api.Int,
	} // 26 is a Var that denotes nothing.
	for place := range x.Nodes {
		if got := Type(x, place); got != want[place] {
			t.Error(place, got)
		}
	}
	for _, place := range append(outside, 54, 55) {
		if got := Type(x, place); got != 0 {
			t.Error(place, got)
		}
	}
}

// TestC2TypeOfOperators: what an operator makes has its type whatever the operands are.
func TestC2TypeOfOperators(t *testing.T) {
	want := map[string]int{}
	for _, sign := range strings.Fields("+ - * / %") {
		want[sign] = api.Int
	}
	for _, sign := range strings.Fields("== != < <= > >= && ||") {
		want[sign] = api.Bool
	}
	for _, operand := range []string{"1", "true", "a", "u", "&f", "nil", "len nil"} {
		for sign, kind := range want {
			x, place := marked(t, body("nil = "+operand+"@"+sign+operand+";"), api.Binary)
			if got := Type(x, place); got != kind {
				t.Error(operand, sign, got)
			}
		}
		for sign, kind := range map[string]int{"-": api.Int, "!": api.Bool} {
			x, place := marked(t, body("nil = @"+sign+operand+";"), api.Unary)
			if got := Type(x, place); got != kind {
				t.Error(operand, sign, got)
			}
		}
	}
	for text, kind := range map[string]int{"@x": api.Int, "@g": api.Int, "@b": api.Bool, "@k": api.Bool, "@a": api.Arr, "@p": api.Arr, "@u": api.Fun, "@h": api.Fun, "@f": 0, "@nil": 0, "@main": 0} {
		x, place := marked(t, body("nil = "+text+";"), api.Var)
		if got := Type(x, place); got != kind {
			t.Error(text, got)
		}
	}
	for text, kind := range map[string]int{"@b[u]": api.Index, "@nil[nil]": api.Index, "@len x": api.Length, "@len nil": api.Length} {
		x, place := marked(t, body("nil = "+text+";"), kind)
		if got := Type(x, place); got != api.Int {
			t.Error(text, got)
		}
	}
}

func TestC2Lookup(t *testing.T) {
	x := parsed(t, sampleText)
	names := []string{"g", "x", "y", "z", "f", "t", "main", "lo", "nil", "", "X", "x ", "int", strings.Repeat("x", 1<<16)}
	want := map[int]map[string]int{
		-1: {},
		19: {"g": 0, "x": 2, "z": 3},
		31: {"g": 0, "x": 1, "y": 20},
		52: {"g": 33, "x": 32},
	}
	for _, place := range append(slices.Clone(outside), seq(-2, 57)...) {
		for _, name := range names {
			d, ok := want[sampleOwner(place)][name]
			if !ok {
				d = -1
			}
			if got := Lookup(x, place, name); got != d {
				t.Errorf("%q at %d is %d, not %d", name, place, got, d)
			}
		}
	}
}

// seq is the numbers from one up to another.
func seq(from, to int) []int {
	var out []int
	for n := from; n <= to; n++ {
		out = append(out, n)
	}
	return out
}

// TestC2LookupTheFirst: of declarations of the same name the first one is what it denotes, a Param ahead of a Local, and both ahead of a Global.
func TestC2LookupTheFirst(t *testing.T) {
	x := parsed(t, "var x int; var y int; var x bool; var y bool; proc f(z int, x arr, z bool, x fun) { var z arr; var x int; var w int; var w bool; return; } proc g() { } proc g(z int) { }")
	f, g := Procedure(x, "f"), Procedure(x, "g")
	if f != 14 || g != 16 {
		t.Fatal(f, g)
	}
	for name, d := range map[string]int{"x": 5, "y": 1, "z": 4, "w": 10, "f": -1, "g": -1} {
		for place := 4; place <= f; place++ {
			if got := Lookup(x, place, name); got != d {
				t.Errorf("%q at %d is %d, not %d", name, place, got, d)
			}
		}
	}
	for name, d := range map[string]int{"x": 0, "y": 1, "z": -1, "w": -1} {
		if got := Lookup(x, g, name); got != d {
			t.Errorf("%q at %d is %d, not %d", name, g, got, d)
		}
	}
	if got := Lookup(x, 18, "z"); got != 17 || Owner(x, 17) != 19 {
		t.Error(got, Owner(x, 17))
	}
	hold(t, x)
}

// TestC2TwoProceduresOfAName: each is the owner of its own.
func TestC2TwoProceduresOfAName(t *testing.T) {
	x := parsed(t, "proc f(x int) { } proc f(x bool) { out lo x; } proc f() { out lo x; }")
	hold(t, x)
	for place, n := range x.Nodes {
		if n.Kind != api.Var {
			continue
		}
		owner := Owner(x, place)
		d := Lookup(x, place, "x")
		if owner == 8 && (d != 3 || Type(x, place) != api.Bool) || owner == 13 && d != -1 || owner != 8 && owner != 13 {
			t.Error(place, owner, d)
		}
	}
}

func TestC2Procedure(t *testing.T) {
	x := parsed(t, sampleText)
	for name, want := range map[string]int{"f": 19, "t": 31, "main": 52, "g": -1, "x": -1, "lo": -1, "nil": -1, "": -1, "F": -1, "mai": -1, "main ": -1, "proc": -1} {
		if got := Procedure(x, name); got != want {
			t.Error(name, got)
		}
	}
	if Main(x) != 52 {
		t.Error(Main(x))
	}
	for text, want := range map[string][2]int{ // Procedure of f, and Main
		"":                             {-1, -1},
		"var f int; var main int;":     {-1, -1},
		"proc f() { var main int; }":   {2, -1},
		"proc main() { var f int; }":   {-1, 2},
		"proc f() { } proc main() { }": {1, 3},
		"proc main() { } proc f() { } proc f() { } proc main() { } proc f() { }": {3, 1},
		"var f int; proc f(f int) { call main(); } proc main(x int) int { }":     {5, 8},
		"proc f_() { } proc F() { } proc Main() { } proc ff() { } proc f() { }":  {9, -1},
	} {
		x := parsed(t, text)
		if p, m := Procedure(x, "f"), Main(x); p != want[0] || m != want[1] || Procedure(x, "main") != m {
			t.Errorf("%q: %d, %d", text, p, m)
		}
	}
}

func TestC2Plain(t *testing.T) {
	x := parsed(t, sampleText)
	for _, place := range append(slices.Clone(outside), seq(-2, 57)...) {
		if got := Plain(x, place); got != (place == 19) {
			t.Error(place, got)
		}
	}
	for text, want := range map[string]bool{
		"proc f(x int) int { }":                                  true,
		"proc f(x int) int { var y bool; var z int; return x; }": true,
		"proc f(f int) int { x = 1; }":                           true,
		"proc main(x int) int { }":                               true,
		"proc f() int { }":                                       false,
		"proc f() int { var x int; }":                            false,
		"proc f(x int, y int) int { }":                           false,
		"proc f(x int, x int) int { }":                           false,
		"proc f(x bool) int { }":                                 false,
		"proc f(x arr) int { }":                                  false,
		"proc f(x fun) int { }":                                  false,
		"proc f(x int) { }":                                      false,
		"proc f(x int) bool { }":                                 false,
		"proc f(x int) arr { }":                                  false,
		"proc f(x int) fun { }":                                  false,
		"proc f() { }":                                           false,
	} {
		x := parsed(t, text)
		if got := Plain(x, x.Root-1); got != want {
			t.Errorf("%q: %v", text, got)
		}
	}
	// Each of two procedures of a name is plain or not by itself.
	x = parsed(t, "proc f() { } proc f(x int) int { }")
	if Plain(x, 1) || !Plain(x, 4) {
		t.Error(Plain(x, 1), Plain(x, 4))
	}
}

func TestC3Channels(t *testing.T) {
	for text, want := range map[string]string{
		"":                                  "",
		"var lo int; proc hi() { lo = 1; }": "",
		"proc f() { out lo 1; }":            "lo",
		"proc f() { x = in lo; }":           "lo",
		"proc f() { out lo 1; x = in lo; }": "lo",
		"proc f() { out lo 1; out hi 1; }":  "hi lo",
		"proc f() { out lo 1; } proc f() { out hi 1; } proc g() { x = in lo; }":                                            "hi lo",
		"proc f() { if b { out d 1; } else { out c 1; } while b { out b 1; } try { out a 1; } catch x { y = in e; } }":     "a b c d e",
		"proc f() { out b 1; out a 1; out B 1; out _ 1; out A 1; out aa 1; out a_ 1; out a0 1; out aA 1; out Z9 1; }":      "A B Z9 _ a a0 aA a_ aa b",
		"proc f() { out x10 1; out x9 1; out x 1; out x1 1; out x10 1; out x 1; x = in x1; x = in x9; x = in x9; }":        "x x1 x10 x9",
		"var g int; proc p(q int) { var l int; l = in x; out lo q; call f(in_); out mid len a; h = &other; u[0] = w[1]; }": "lo mid x",
	} {
		x := parsed(t, text)
		if got := Channels(x); !slices.Equal(got, strings.Fields(want)) {
			t.Errorf("%q: %q", text, got)
		}
		hold(t, x)
	}
}

// TestC3Many: as many channels as a program may have, each of them twice, from the last one to the first.
func TestC3Many(t *testing.T) {
	var list []api.Tree
	var want []string
	for i := range 664 {
		name := "c" + string(rune('a'+i/26)) + string(rune('a'+i%26))
		want = append(want, name)
		list = append(list, over(api.Out, "", leaf(api.Chan, name, 0), leaf(api.Const, "", 1)))
	}
	slices.Reverse(list)
	list = append(list, list...)
	x := over(api.Program, "", over(api.Proc, "f", over(api.Block, "", list...)))
	if !tree.Right(x) {
		t.Fatal(len(x.Nodes))
	}
	if got := Channels(x); !slices.Equal(got, want) {
		t.Error(got)
	}
}

// TestC4 holds the chapter's promise of what is declared for programs that stand in the document.
func TestC4(t *testing.T) {
	for _, text := range []string{body("x = a[len d] + g; call u(1); call f(g); b = k;"), "proc f() { call main(); } proc main() { var f fun; call f(1); }"} {
		x := parsed(t, text)
		if _, e := Check(x); e != api.OK {
			t.Fatal(text, e)
		}
		holdC4(t, x)
	}
}
