package print

import (
	"math"
	"slices"
	"strings"
	"sync"
	"testing"

	"runnel/api"
	"runnel/tree"
)

// samples are trees of all sorts: programs, expressions, and what is neither.
func samples() []api.Tree {
	g := newGrow(21)
	out := []api.Tree{{}, everyKind(), over(api.Program, ""), block(), number(1), stacked(40, steps()[3]), stacked(41, steps()[3]), sized(100, "x")}
	for i := range 12 {
		x, y := g.program(4+i), g.expr(1+i%6)
		out = append(out, x, y)
		g.spoil(&x)
		g.spoil(&y)
		out = append(out, x, y)
	}
	return out
}

// answers are what all calls say of a tree.
func answers(x api.Tree) []string {
	out := []string{Program(x), Expr(x)}
	for place := -1; place <= len(x.Nodes); place++ {
		out = append(out, Line(x, place))
	}
	return out
}

// TestTotality covers P1 and P7 of the document: no tree makes a call panic, whatever its numbers are.
func TestTotality(t *testing.T) {
	g := newGrow(22)
	odd := func() int {
		return []int{math.MinInt, -1, 0, 1, 2, 3, g.Intn(30), g.Intn(30), 4000, 1 << 31, math.MaxInt}[g.Intn(11)]
	}
	for range 20000 {
		x := api.Tree{Nodes: make([]api.Node, g.Intn(6)), Root: odd()}
		if g.Intn(4) > 0 {
			x.Root = len(x.Nodes) - 1
		}
		for i := range x.Nodes {
			x.Nodes[i] = api.Node{Kind: odd(), N: odd(), At: odd(), Text: wrongTexts[g.Intn(len(wrongTexts))]}
			for range g.Intn(3) {
				x.Nodes[i].Kids = append(x.Nodes[i].Kids, odd())
			}
		}
		if got := Program(x) + Line(x, odd()); got != "" && !tree.Right(x) {
			t.Fatalf("%q of %v", got, x)
		}
		if got := Expr(x); got != modelExpr(x) {
			t.Fatalf("%q of %v", got, x)
		}
	}
	many := api.Tree{Nodes: make([]api.Node, 1<<20), Root: 1<<20 - 1}
	refuseAll(t, "a million nodes", many)
	refuseAll(t, "a million kids", api.Tree{Nodes: []api.Node{{Kind: api.Binary, Text: "+", Kids: make([]int, 1<<20)}}})
	refuseAll(t, "a name of a million bytes", programOf(over(api.Throw, "", name(strings.Repeat("x", 1<<20)))))
	wide := slices.Repeat([]api.Tree{number(1)}, 3999)
	refuseAll(t, "an operator over 3999 expressions", over(api.Binary, "+", wide...))
}

// TestArgumentsStay covers P3 of the document: nothing of a tree is changed, within its length or beyond it, and nothing beyond it is read.
func TestArgumentsStay(t *testing.T) {
	for _, x := range samples() {
		want := answers(x)
		nodes := append(copied(x).Nodes, api.Node{Kind: api.Proc, Text: "beyond"}, api.Node{Kind: api.Program, Kids: []int{len(x.Nodes)}})
		for i := range x.Nodes {
			kids := append(nodes[i].Kids, math.MinInt, math.MaxInt)
			nodes[i].Kids = kids[:len(kids)-2]
		}
		whole := copied(api.Tree{Nodes: nodes})
		got := answers(api.Tree{Nodes: nodes[:len(x.Nodes)], Root: x.Root})
		if !slices.Equal(got, want) {
			t.Fatalf("%q, not %q", got, want)
		}
		if !equal(api.Tree{Nodes: nodes}, whole) {
			t.Fatal("a tree is changed")
		}
		for i := range x.Nodes {
			kids := nodes[i].Kids
			if beyond := kids[len(kids) : len(kids)+2]; beyond[0] != math.MinInt || beyond[1] != math.MaxInt {
				t.Fatal("a list is changed beyond its end")
			}
		}
	}
}

// TestSameAnswers covers P4 of the document: the same call answers the same, whatever was asked in between, and of a copy too.
func TestSameAnswers(t *testing.T) {
	trees := samples()
	first := make([][]string, len(trees))
	for i, x := range trees {
		first[i] = answers(x)
		if !slices.Equal(answers(x), first[i]) || !slices.Equal(answers(copied(x)), first[i]) {
			t.Errorf("tree %d: another answer", i)
		}
	}
	for i, x := range slices.Backward(trees) {
		if !slices.Equal(answers(x), first[i]) {
			t.Errorf("tree %d: another answer behind others", i)
		}
	}
	var wait sync.WaitGroup
	again := make([][]string, len(trees))
	for i, x := range trees {
		wait.Go(func() { again[i] = answers(x) })
	}
	wait.Wait()
	for i := range trees {
		if !slices.Equal(again[i], first[i]) {
			t.Errorf("tree %d: another answer beside others", i)
		}
	}
}

// TestAnswersStay: a text stays what it was when the tree changes, as P3 of the document has it, and the next answer is of the tree as it is then.
func TestAnswersStay(t *testing.T) {
	x := programOf(over(api.Assign, "x", number(1)))
	text, line := Program(x), Line(x, 1)
	x.Nodes[1].Text, x.Nodes[0].N = "y", 2
	if text != "proc f() {\n  x = 1;\n}\n" || line != "x = 1" || Program(x) != "proc f() {\n  y = 2;\n}\n" || Line(x, 1) != "y = 2" {
		t.Error(text, line, Program(x), Line(x, 1))
	}
}

// TestEmptyAndNilKids covers P5 of the document: a node without children may have a nil list or an empty one.
func TestEmptyAndNilKids(t *testing.T) {
	x := everyKind()
	for _, list := range [][]int{nil, {}, make([]int, 0, 9)} {
		y := copied(x)
		for i := range y.Nodes {
			if len(y.Nodes[i].Kids) == 0 {
				y.Nodes[i].Kids = list
			}
		}
		if !slices.Equal(answers(y), answers(x)) {
			t.Error(list)
		}
	}
}

// collector takes the pieces of a text as they come.
type collector struct{ pieces []string }

func (c *collector) take(pieces ...string) { c.pieces = append(c.pieces, pieces...) }

// TestWaysMethodValue: all that is printed goes through the method value that the printer is given, from whichever object that is.
func TestWaysMethodValue(t *testing.T) {
	x := everyKind()
	var all collector
	printer{nodes: x.Nodes, write: all.take}.program(x.Root)
	if got := strings.Join(all.pieces, ""); got != Program(x) || len(all.pieces) < 100 {
		t.Errorf("%q", got)
	}
	var out page
	write := out.add
	write("a", "", "b")
	write()
	write("c")
	if got := out.text.String(); got != "abc" {
		t.Error(got)
	}
}
